/-
  LadderPlays: the document's New, Find, Before, Drop.
-/
import Derived.Test.YtfdbjcdcfmnicaaLpA
namespace Go.Proofs.Ytfdbjcdcfmnicaa
open Go Go.RowKit
open Sha

set_option maxRecDepth 100000 in
set_option maxHeartbeats 4000000 in
theorem rformed_any (c : Cm) (hw : c.Wf) (L : List Value) (hL : L = c.cells) (w : World) : Calls Try.prog 40 #[.agg L.toArray] w fun e w' => e = .returned (.bool (mayB c)) ∧ Below w.heap.size w w' := by
  obtain ⟨B, hB⟩ : ∃ B, B = mayB c := ⟨_, rfl⟩
  rw [← hB]
  have HL : Hid (L = c.cells) := hL
  have HW : Hid c.Wf := hw
  clear hL hw
  by_cases h1 : 0 ≤ c.n
  · by_cases h2 : c.n ≤ 1099511627776
    · by_cases h3 : 0 ≤ c.k
      · by_cases h4 : c.k ≤ 1099511627776
        · have HB : Hid (B = true) := by show _ = _; rw [hB, mayB, decide_eq_true h1, decide_eq_true h2, decide_eq_true h3, decide_eq_true h4]; rfl
          clear hB
          go_enter Try.func40, Try.ntmps40
          go_wp2_with (refine wpList_bxG tC rfl (.tmp 0) rfl L rfl ?_; intro X q1 q2 _; rw [HL.out] at q1; have c0 := q1.cell 0 _ (Cm.at_n c); have c1 := q1.cell 65 _ (Cm.at_k HW.out); have B1 : Hid (Below w.heap.size w X) := q2; clear q1 q2; simp only [Act.put, List.setIfInBounds_toArray, List.set_cons_zero, List.set_cons_succ])
          go_ret
          exact ⟨by rw [HB.out]; rfl, B1.out⟩
        · have HB : Hid (B = false) := by show _ = _; rw [hB, mayB, decide_eq_false h4, Bool.and_false]
          clear hB
          go_enter Try.func40, Try.ntmps40
          go_wp2_with (refine wpList_bxG tC rfl (.tmp 0) rfl L rfl ?_; intro X q1 q2 _; rw [HL.out] at q1; have c0 := q1.cell 0 _ (Cm.at_n c); have c1 := q1.cell 65 _ (Cm.at_k HW.out); have B1 : Hid (Below w.heap.size w X) := q2; clear q1 q2; simp only [Act.put, List.setIfInBounds_toArray, List.set_cons_zero, List.set_cons_succ])
          go_ret
          exact ⟨by rw [HB.out]; rfl, B1.out⟩
      · have HB : Hid (B = false) := by show _ = _; rw [hB, mayB, decide_eq_false h3, Bool.and_false, Bool.false_and]
        clear hB
        go_enter Try.func40, Try.ntmps40
        go_wp2_with (refine wpList_bxG tC rfl (.tmp 0) rfl L rfl ?_; intro X q1 q2 _; rw [HL.out] at q1; have c0 := q1.cell 0 _ (Cm.at_n c); have c1 := q1.cell 65 _ (Cm.at_k HW.out); have B1 : Hid (Below w.heap.size w X) := q2; clear q1 q2; simp only [Act.put, List.setIfInBounds_toArray, List.set_cons_zero, List.set_cons_succ])
        go_ret
        exact ⟨by rw [HB.out]; rfl, B1.out⟩
    · have HB : Hid (B = false) := by show _ = _; rw [hB, mayB, decide_eq_false h2, Bool.and_false, Bool.false_and, Bool.false_and]
      clear hB
      go_enter Try.func40, Try.ntmps40
      go_wp2_with (refine wpList_bxG tC rfl (.tmp 0) rfl L rfl ?_; intro X q1 q2 _; rw [HL.out] at q1; have c0 := q1.cell 0 _ (Cm.at_n c); have c1 := q1.cell 65 _ (Cm.at_k HW.out); have B1 : Hid (Below w.heap.size w X) := q2; clear q1 q2; simp only [Act.put, List.setIfInBounds_toArray, List.set_cons_zero, List.set_cons_succ])
      go_ret
      exact ⟨by rw [HB.out]; rfl, B1.out⟩
  · have HB : Hid (B = false) := by show _ = _; rw [hB, mayB, decide_eq_false h1, Bool.false_and, Bool.false_and, Bool.false_and]
    clear hB
    go_enter Try.func40, Try.ntmps40
    go_wp2_with (refine wpList_bxG tC rfl (.tmp 0) rfl L rfl ?_; intro X q1 q2 _; rw [HL.out] at q1; have c0 := q1.cell 0 _ (Cm.at_n c); have c1 := q1.cell 65 _ (Cm.at_k HW.out); have B1 : Hid (Below w.heap.size w X) := q2; clear q1 q2; simp only [Act.put, List.setIfInBounds_toArray, List.set_cons_zero, List.set_cons_succ])
    go_ret
    exact ⟨by rw [HB.out]; rfl, B1.out⟩

def zRL : List Value := La.dc (La0 zC 0) (.slice none 0 0)
theorem zRL_len : zRL.length = 70 := by kernel_rfl
theorem built_r0 : Try.prog.built tRL [] = some zRL.toArray := by kernel_rfl
theorem built_RL : ∃ places : List (Nat × Nat), (∀ parts, Try.prog.built tRL parts = Instr.fill (places.toArray[·]?) zRL.toArray parts) ∧ places = [(0, 66), (66, 1), (67, 1), (68, 1), (69, 1)] :=
  ⟨[(0, 66), (66, 1), (67, 1), (68, 1), (69, 1)], fun _ => by kernel_rfl, rfl⟩
theorem built_rl (c : Cm) (win : Int) (h : c.Wf) : Try.prog.built tRL [(0, .agg c.cells.toArray), (2, .int .i64 win)] = some ((La0 c win).dc (.slice none 0 0)).toArray := by
  obtain ⟨pl, h1, h2⟩ := built_RL
  subst h2
  rw [h1]
  rw [show zRL.toArray = ([] ++ zRL.drop 0).toArray by rw [List.drop_zero, List.nil_append]]
  refine Eq.trans (fill_next _ 0 0 66 66 [] zRL c.cells _ _ rfl rfl (Cm.len h) rfl (by rw [zRL_len]; decide) rfl) ?_
  rw [skip_next ([] ++ c.cells) zRL 66 1 [.slice none 0 0] (by kernel_rfl)]
  refine Eq.trans (fill_next _ 2 67 1 68 _ zRL [Value.int .i64 win] _ _ rfl rfl rfl (by rw [List.nil_append, List.length_append, Cm.len h]; rfl) (by rw [zRL_len]; decide) rfl) ?_
  rw [Instr.fill, show zRL.drop 68 = [Value.int .i64 0, .int .i64 0] by kernel_rfl]
  congr 2
  rw [List.nil_append, List.append_assoc, List.append_assoc]
  rfl
section
variable {ops : Array Oper} {rest : List Oper} {op : Oper} {a : Act} {w : World} {Q : Exit → Act → World → Prop}
set_option maxRecDepth 100000 in
theorem wpList_alRL (hgd : op.guard = none) (ho : op.op = .alloc tRL) (h : ∀ X, Row X w.heap.size zRL tRL → Below w.heap.size w X → X.heap.size = w.heap.size + 1 → wpList Try.prog ops Q rest (a.put op.dst (.pointer (some ⟨w.heap.size, 0, none⟩))) X) : wpList Try.prog ops Q (op :: rest) a w :=
  wpList_plain hgd fun _ hK => by
    unfold Oper.wp execOp
    simp only [ho]
    go_simp
    exact hK _ _ (h _ (Row.new' (cs := zRL) rfl rfl) ((Below.refl _ _).alloc (Nat.le_refl _) _) (by simp))
end
theorem results_rStt {P : Program} {fn : Func} {p q r : Tmp} {ty : TypeId} {fs : Array Field} (h : fn.results = #[.cell p ty, .tmp q, .tmp r]) (tmps : Array Value) (w : World) (g : Nat) (t : TypeId) (cs : List Value) (v u : Value)
    (hp : tmps.getD p undef = .pointer (some ⟨g, 0, none⟩)) (hv : tmps.getD q undef = v) (hu' : tmps.getD r undef = u) (hg : Row w g cs t) (hu : P.underlying ty = some (.struct fs)) (hi : (P.info? ty).map (·.size) = some cs.length) :
    (results fn tmps).run P w = .ok (.tuple #[.agg cs.toArray, v, u]) w := by
  have hp' : tmps[p]?.getD undef = .pointer (some ⟨g, 0, none⟩) := by simpa using hp
  have hv' : tmps[q]?.getD undef = v := by simpa using hv
  have hu2 : tmps[r]?.getD undef = u := by simpa using hu'
  have hr := run_loadVar_row (P := P) w g t ty cs.toArray (0, 0) (.struct fs) hg hu rfl (by simp [hi])
  simp [results, h, hp', hv', hu2, asAddr, hr]
theorem results_rSSt {P : Program} {fn : Func} {p q r : Tmp} {ty ty2 : TypeId} {fs fs2 : Array Field} (h : fn.results = #[.cell p ty, .cell q ty2, .tmp r]) (tmps : Array Value) (w : World) (g g2 : Nat) (t t2 : TypeId) (cs cs2 : List Value) (u : Value)
    (hp : tmps.getD p undef = .pointer (some ⟨g, 0, none⟩)) (hq : tmps.getD q undef = .pointer (some ⟨g2, 0, none⟩)) (hu' : tmps.getD r undef = u) (hg : Row w g cs t) (hg2 : Row w g2 cs2 t2) (hu : P.underlying ty = some (.struct fs)) (hu2 : P.underlying ty2 = some (.struct fs2)) (hi : (P.info? ty).map (·.size) = some cs.length) (hi2 : (P.info? ty2).map (·.size) = some cs2.length) :
    (results fn tmps).run P w = .ok (.tuple #[.agg cs.toArray, .agg cs2.toArray, u]) w := by
  have hp' : tmps[p]?.getD undef = .pointer (some ⟨g, 0, none⟩) := by simpa using hp
  have hq' : tmps[q]?.getD undef = .pointer (some ⟨g2, 0, none⟩) := by simpa using hq
  have hu3 : tmps[r]?.getD undef = u := by simpa using hu'
  have hr := run_loadVar_row (P := P) w g t ty cs.toArray (0, 0) (.struct fs) hg hu rfl (by simp [hi])
  have hr2 := run_loadVar_row (P := P) w g2 t2 ty2 cs2.toArray (0, 0) (.struct fs2) hg2 hu2 rfl (by simp [hi2])
  simp [results, h, hp', hq', hu3, asAddr, hr, hr2]
def newV (c : Cm) (win : Int) : List Value := if newE c win = 0 then (La0 c win).dc (.slice none 0 0) else zRL
set_option maxRecDepth 100000 in
set_option maxHeartbeats 4000000 in
theorem rnew_any (c : Cm) (hw : c.Wf) (win : Int) (Lc : List Value) (hL : Lc = c.cells) (E : Int) (hE : newE c win = E) (w : World) : Calls Try.prog 55 #[.agg Lc.toArray, .int .i64 win] w fun e w' => e = .returned (.tuple #[.agg (newV c win).toArray, .int .i64 E]) ∧ Below w.heap.size w w' := by
  obtain ⟨T, hT⟩ : ∃ T, T = mayB c := ⟨_, rfl⟩
  have HM : Hid (∀ w, Calls Try.prog 40 #[.agg Lc.toArray] w fun e w' => e = .returned (.bool T) ∧ Below w.heap.size w w') := fun w => by rw [hT]; exact rformed_any c hw Lc hL w
  obtain ⟨Lz, hLz⟩ : ∃ L, L = newV c win := ⟨_, rfl⟩
  have HLZ : Hid (Lz = newV c win) := hLz
  have hlen : Lz.length = 70 := by
    rw [hLz, newV]
    split
    · exact La.dlen (st := La0 c win) hw _
    · exact zRL_len
  have HLN : Hid (Lz.length = zRL.length) := by show _ = _; rw [hlen, zRL_len]
  have HIZ : Hid ((Try.prog.info? tRL).map (·.size) = some Lz.length) := by show _ = _; rw [hlen]; exact info_RL
  have HO : Hid (Lz.toArray.all (·.oneCell') = true) := by
    show _ = _
    rw [hLz, newV]
    split
    · exact all_one (La.done _ none 0 0)
    · exact all_one (La.done (La0 zC 0) none 0 0)
  have HI : Hid ((Try.prog.info? tC).map (·.size) = some Lc.length) := by show _ = _; rw [hL]; exact Cm.info hw
  rw [← hLz]
  have hE2 := hE
  unfold newE at hE
  rw [← hT] at hE
  clear hT
  cases T with
  | false =>
    obtain rfl : E = 160 := by rw [← hE]; rfl
    have HB0 : Hid (Try.prog.built tRL [] = some Lz.toArray) := by show _ = _; rw [hLz, newV, if_neg (by rw [hE2]; decide)]; exact built_r0
    clear hE hE2 hLz hlen hL hw
    go_enter Try.func55, Try.ntmps55
    go_wp2_with (first
      | (refine wpList_bxG tC rfl (.tmp 0) rfl Lc rfl ?_; intro X1 q1 q2 q3; have R1 : Hid (Row X1 w.heap.size Lc tC) := q1; have BX1 : Hid (Below w.heap.size w X1) := q2; clear q1 q2 q3; simp only [Act.put, List.setIfInBounds_toArray, List.set_cons_zero, List.set_cons_succ])
      | (refine wpList_alRL rfl rfl ?_; intro X2 q1 q2 q3; clear q3; have RX2 : Hid (Row X2 X1.heap.size zRL tRL) := q1; have BX2 : Hid (Below w.heap.size w X2) := BX1.out.trans (q2.mono BX1.out.size); have R12 : Hid (Row X2 w.heap.size Lc tC) := Row.below R1.out q2 R1.out.lt; clear q1 q2; simp only [Act.put, List.setIfInBounds_toArray, List.set_cons_zero, List.set_cons_succ])
      | (refine wpList_ldS rfl tC (.tmp 2) rfl w.heap.size 0 rfl Lc _ R12.out.all Try.underlying25 rfl HI.out ?_; simp only [Act.put, List.setIfInBounds_toArray, List.set_cons_zero, List.set_cons_succ])
      | (go_at_call 40; refine Calls.mono (HM.out _) ?_; rintro e X3 ⟨rfl, q⟩; have B3 : Hid (Below w.heap.size w X3) := BX2.out.trans (q.mono BX2.out.size); have R13 : Hid (Row X3 w.heap.size Lc tC) := Row.below R12.out q R12.out.lt; have R23 : Hid (Row X3 X1.heap.size zRL tRL) := Row.below RX2.out q RX2.out.lt; clear q R12)
          | (refine wpList_blt rfl tRL _ rfl [] rfl Lz HB0.out ?_; simp only [Act.put, List.setIfInBounds_toArray, List.set_cons_zero, List.set_cons_succ])
      | (refine wpList_stL rfl tRL (.tmp 4) (.tmp 9) rfl X1.heap.size Lz zRL tRL rfl rfl R23.out HLN.out HIZ.out HO.out ?_; intro X4 q1 q2; have R4 : Hid (Row X4 X1.heap.size Lz tRL) := q1; have B4 : Hid (Below w.heap.size w X4) := gro_newL B3.out BX1.out.size q2; clear q1 q2))
    exact bodyPost_ret (results_rSt Try.results55 _ _ X1.heap.size tRL Lz (.int .i64 160) rfl rfl R4.out Try.underlying44 HIZ.out) rfl ⟨by rw [HLZ.out], B4.out⟩
  | true =>
    by_cases h1 : win < 1
    · obtain rfl : E = 1 := by rw [← hE, if_pos rfl, if_neg (by omega)]
      have HB0 : Hid (Try.prog.built tRL [] = some Lz.toArray) := by show _ = _; rw [hLz, newV, if_neg (by rw [hE2]; decide)]; exact built_r0
      clear hE hE2 hLz hlen hL hw
      go_enter Try.func55, Try.ntmps55
      go_wp2_with (first
        | (refine wpList_bxG tC rfl (.tmp 0) rfl Lc rfl ?_; intro X1 q1 q2 q3; have R1 : Hid (Row X1 w.heap.size Lc tC) := q1; have BX1 : Hid (Below w.heap.size w X1) := q2; clear q1 q2 q3; simp only [Act.put, List.setIfInBounds_toArray, List.set_cons_zero, List.set_cons_succ])
        | (refine wpList_alRL rfl rfl ?_; intro X2 q1 q2 q3; clear q3; have RX2 : Hid (Row X2 X1.heap.size zRL tRL) := q1; have BX2 : Hid (Below w.heap.size w X2) := BX1.out.trans (q2.mono BX1.out.size); have R12 : Hid (Row X2 w.heap.size Lc tC) := Row.below R1.out q2 R1.out.lt; clear q1 q2; simp only [Act.put, List.setIfInBounds_toArray, List.set_cons_zero, List.set_cons_succ])
        | (refine wpList_ldS rfl tC (.tmp 2) rfl w.heap.size 0 rfl Lc _ R12.out.all Try.underlying25 rfl HI.out ?_; simp only [Act.put, List.setIfInBounds_toArray, List.set_cons_zero, List.set_cons_succ])
        | (go_at_call 40; refine Calls.mono (HM.out _) ?_; rintro e X3 ⟨rfl, q⟩; have B3 : Hid (Below w.heap.size w X3) := BX2.out.trans (q.mono BX2.out.size); have R13 : Hid (Row X3 w.heap.size Lc tC) := Row.below R12.out q R12.out.lt; have R23 : Hid (Row X3 X1.heap.size zRL tRL) := Row.below RX2.out q RX2.out.lt; clear q R12)
          | (refine wpList_blt rfl tRL _ rfl [] rfl Lz HB0.out ?_; simp only [Act.put, List.setIfInBounds_toArray, List.set_cons_zero, List.set_cons_succ])
        | (refine wpList_stL rfl tRL (.tmp 4) (.tmp 16) rfl X1.heap.size Lz zRL tRL rfl rfl R23.out HLN.out HIZ.out HO.out ?_; intro X4 q1 q2; have R4 : Hid (Row X4 X1.heap.size Lz tRL) := q1; have B4 : Hid (Below w.heap.size w X4) := gro_newL B3.out BX1.out.size q2; clear q1 q2))
      exact bodyPost_ret (results_rSt Try.results55 _ _ X1.heap.size tRL Lz (.int .i64 1) rfl rfl R4.out Try.underlying44 HIZ.out) rfl ⟨by rw [HLZ.out], B4.out⟩
    · by_cases h2 : 4611686018427387904 < win
      · obtain rfl : E = 1 := by rw [← hE, if_pos rfl, if_neg (by omega)]
        have HB0 : Hid (Try.prog.built tRL [] = some Lz.toArray) := by show _ = _; rw [hLz, newV, if_neg (by rw [hE2]; decide)]; exact built_r0
        clear hE hE2 hLz hlen hL hw
        go_enter Try.func55, Try.ntmps55
        go_wp2_with (first
          | (refine wpList_bxG tC rfl (.tmp 0) rfl Lc rfl ?_; intro X1 q1 q2 q3; have R1 : Hid (Row X1 w.heap.size Lc tC) := q1; have BX1 : Hid (Below w.heap.size w X1) := q2; clear q1 q2 q3; simp only [Act.put, List.setIfInBounds_toArray, List.set_cons_zero, List.set_cons_succ])
          | (refine wpList_alRL rfl rfl ?_; intro X2 q1 q2 q3; clear q3; have RX2 : Hid (Row X2 X1.heap.size zRL tRL) := q1; have BX2 : Hid (Below w.heap.size w X2) := BX1.out.trans (q2.mono BX1.out.size); have R12 : Hid (Row X2 w.heap.size Lc tC) := Row.below R1.out q2 R1.out.lt; clear q1 q2; simp only [Act.put, List.setIfInBounds_toArray, List.set_cons_zero, List.set_cons_succ])
          | (refine wpList_ldS rfl tC (.tmp 2) rfl w.heap.size 0 rfl Lc _ R12.out.all Try.underlying25 rfl HI.out ?_; simp only [Act.put, List.setIfInBounds_toArray, List.set_cons_zero, List.set_cons_succ])
          | (go_at_call 40; refine Calls.mono (HM.out _) ?_; rintro e X3 ⟨rfl, q⟩; have B3 : Hid (Below w.heap.size w X3) := BX2.out.trans (q.mono BX2.out.size); have R13 : Hid (Row X3 w.heap.size Lc tC) := Row.below R12.out q R12.out.lt; have R23 : Hid (Row X3 X1.heap.size zRL tRL) := Row.below RX2.out q RX2.out.lt; clear q R12)
          | (refine wpList_blt rfl tRL _ rfl [] rfl Lz HB0.out ?_; simp only [Act.put, List.setIfInBounds_toArray, List.set_cons_zero, List.set_cons_succ])
          | (refine wpList_stL rfl tRL (.tmp 4) (.tmp 16) rfl X1.heap.size Lz zRL tRL rfl rfl R23.out HLN.out HIZ.out HO.out ?_; intro X4 q1 q2; have R4 : Hid (Row X4 X1.heap.size Lz tRL) := q1; have B4 : Hid (Below w.heap.size w X4) := gro_newL B3.out BX1.out.size q2; clear q1 q2))
        exact bodyPost_ret (results_rSt Try.results55 _ _ X1.heap.size tRL Lz (.int .i64 1) rfl rfl R4.out Try.underlying44 HIZ.out) rfl ⟨by rw [HLZ.out], B4.out⟩
      · obtain rfl : E = 0 := by rw [← hE, if_pos rfl, if_pos (by omega)]
        have HB0 : Hid (Try.prog.built tRL [(0, .agg Lc.toArray), (2, .int .i64 win)] = some Lz.toArray) := by show _ = _; rw [hLz, newV, if_pos hE2, hL]; exact built_rl c win hw
        clear hE hE2 hLz hlen hL hw
        go_enter Try.func55, Try.ntmps55
        go_wp2_with (first
          | (refine wpList_bxG tC rfl (.tmp 0) rfl Lc rfl ?_; intro X1 q1 q2 q3; have R1 : Hid (Row X1 w.heap.size Lc tC) := q1; have BX1 : Hid (Below w.heap.size w X1) := q2; clear q1 q2 q3; simp only [Act.put, List.setIfInBounds_toArray, List.set_cons_zero, List.set_cons_succ])
          | (refine wpList_alRL rfl rfl ?_; intro X2 q1 q2 q3; clear q3; have RX2 : Hid (Row X2 X1.heap.size zRL tRL) := q1; have BX2 : Hid (Below w.heap.size w X2) := BX1.out.trans (q2.mono BX1.out.size); have R12 : Hid (Row X2 w.heap.size Lc tC) := Row.below R1.out q2 R1.out.lt; clear q1 q2; simp only [Act.put, List.setIfInBounds_toArray, List.set_cons_zero, List.set_cons_succ])
          | (refine wpList_ldS rfl tC (.tmp 2) rfl w.heap.size 0 rfl Lc _ R12.out.all Try.underlying25 rfl HI.out ?_; simp only [Act.put, List.setIfInBounds_toArray, List.set_cons_zero, List.set_cons_succ])
          | (go_at_call 40; refine Calls.mono (HM.out _) ?_; rintro e X3 ⟨rfl, q⟩; have B3 : Hid (Below w.heap.size w X3) := BX2.out.trans (q.mono BX2.out.size); have R13 : Hid (Row X3 w.heap.size Lc tC) := Row.below R12.out q R12.out.lt; have R23 : Hid (Row X3 X1.heap.size zRL tRL) := Row.below RX2.out q RX2.out.lt; clear q R12)
          | (refine wpList_ldS rfl tC (.tmp 2) rfl w.heap.size 0 rfl Lc _ R13.out.all Try.underlying25 rfl HI.out ?_; simp only [Act.put, List.setIfInBounds_toArray, List.set_cons_zero, List.set_cons_succ])
          | (refine wpList_blt rfl tRL _ rfl [(0, .agg Lc.toArray), (2, .int .i64 win)] rfl Lz HB0.out ?_; simp only [Act.put, List.setIfInBounds_toArray, List.set_cons_zero, List.set_cons_succ])
          | (refine wpList_stL rfl tRL (.tmp 4) (.tmp 19) rfl X1.heap.size Lz zRL tRL rfl rfl R23.out HLN.out HIZ.out HO.out ?_; intro X4 q1 q2; have R4 : Hid (Row X4 X1.heap.size Lz tRL) := q1; have B4 : Hid (Below w.heap.size w X4) := gro_newL B3.out BX1.out.size q2; clear q1 q2))
        exact bodyPost_ret (results_rSt Try.results55 _ _ X1.heap.size tRL Lz (.int .i64 0) rfl rfl R4.out Try.underlying44 HIZ.out) rfl ⟨by rw [HLZ.out], B4.out⟩
def La.find (st : La) (nr : Int) : Pn × Int := match fiN st.pend nr with
  | none => (zP, 164)
  | some i => match st.pend[i]? with
    | none => (zP, 164)
    | some x => (x, 0)
set_option maxRecDepth 100000 in
set_option maxHeartbeats 4000000 in
theorem rfind_any {w : World} {v : Value} {B : Int} {st : La} (h : Rf w v B st) (nr : Int) (L : List Value) (hL : L = st.dc v) (y : Pn) (E : Int) (hr : st.find nr = (y, E)) : Calls Try.prog 63 #[.agg L.toArray, .int .i64 nr] w fun e w' => e = .returned (.tuple #[.agg y.cells.toArray, .int .i64 E]) ∧ Below w.heap.size w w' := by
  obtain ⟨I, hI⟩ : ∃ I, I = fiI st.pend nr := ⟨_, rfl⟩
  have HPL : Hid (∀ X, Below w.heap.size w X → Calls Try.prog 90 #[.agg L.toArray, .int .i64 nr] X fun e w' => e = .returned (.int .i64 I) ∧ Below X.heap.size X w') := fun X k => by rw [hI]; exact rplace_any (h.be k) nr L hL
  have HI : Hid ((Try.prog.info? tRL).map (·.size) = some L.length) := by show _ = _; rw [hL]; exact La.dinfo h.ok.cf v
  unfold La.find at hr
  unfold fiI at hI
  cases hf : fiN st.pend nr with
  | none =>
    rw [hf] at hr hI
    obtain ⟨rfl, rfl⟩ := Prod.mk.inj hr
    have hI2 : I = -1 := hI
    subst hI2
    obtain ⟨Z, hZ⟩ : ∃ Z, Z = zP.cells := ⟨_, rfl⟩
    have HB0 : Hid (Try.prog.built tP [] = some Z.toArray) := by show _ = _; rw [hZ]; exact built_p0
    have HIZ : Hid ((Try.prog.info? tP).map (·.size) = some Z.length) := by show _ = _; rw [hZ]; exact Pn.info zP_wf
    have HO : Hid (Z.toArray.all (·.oneCell') = true) := by show _ = _; rw [hZ]; exact all_one (Pn.one zP)
    have HLN : Hid (Z.length = zP.cells.length) := by show _ = _; rw [hZ]
    rw [← hZ]
    clear h hf hI hL hZ hr
    go_enter Try.func63, Try.ntmps63
    go_wp2_with (first
      | (refine wpList_bxG tRL rfl (.tmp 0) rfl L rfl ?_; intro X1 q1 q2 q3; clear q3; have R1 : Hid (Row X1 w.heap.size L tRL) := q1; have BX1 : Hid (Below w.heap.size w X1) := q2; clear q1 q2; simp only [Act.put, List.setIfInBounds_toArray, List.set_cons_zero, List.set_cons_succ])
      | (refine wpList_alP rfl rfl ?_; intro X2 q1 q2 q3; clear q3; have RX2 : Hid (Row X2 X1.heap.size zP.cells tP) := q1; have BX2 : Hid (Below w.heap.size w X2) := BX1.out.trans (q2.mono BX1.out.size); have R12 : Hid (Row X2 w.heap.size L tRL) := Row.below R1.out q2 R1.out.lt; clear q1 q2; simp only [Act.put, List.setIfInBounds_toArray, List.set_cons_zero, List.set_cons_succ])
      | (refine wpList_ldS rfl tRL (.tmp 2) rfl w.heap.size 0 rfl L _ R12.out.all Try.underlying44 rfl HI.out ?_; simp only [Act.put, List.setIfInBounds_toArray, List.set_cons_zero, List.set_cons_succ])
      | (go_at_call 90; refine Calls.mono (HPL.out _ BX2.out) ?_; rintro e X3 ⟨rfl, q⟩; have B3 : Hid (Below w.heap.size w X3) := BX2.out.trans (q.mono BX2.out.size); have R13 : Hid (Row X3 w.heap.size L tRL) := Row.below R12.out q R12.out.lt; have R23 : Hid (Row X3 X1.heap.size zP.cells tP) := Row.below RX2.out q RX2.out.lt; clear q R12)
      | (refine wpList_blt rfl tP _ rfl [] rfl Z HB0.out ?_; simp only [Act.put, List.setIfInBounds_toArray, List.set_cons_zero, List.set_cons_succ])
      | (refine wpList_stL rfl tP (.tmp 4) (.tmp 12) rfl X1.heap.size Z zP.cells tP rfl rfl R23.out HLN.out HIZ.out HO.out ?_; intro X4 q1 q2; have R4 : Hid (Row X4 X1.heap.size Z tP) := q1; have B4 : Hid (Below w.heap.size w X4) := gro_newL B3.out BX1.out.size q2; clear q1 q2))
    exact bodyPost_ret (results_rSt Try.results63 _ _ X1.heap.size tP Z (.int .i64 164) rfl rfl R4.out Try.underlying66 HIZ.out) rfl ⟨rfl, B4.out⟩
  | some i =>
    rw [hf] at hr hI
    obtain ⟨hil, x, hx, _⟩ := fiN_lt hf
    simp only [hx] at hr
    obtain ⟨rfl, rfl⟩ := Prod.mk.inj hr
    have hI2 : I = (i : Int) := hI
    subst hI2
    have hxw : x.Wf := h.ok.pw x (List.mem_of_getElem? hx)
    obtain ⟨g, o, cap, hv, _, hrg⟩ := h.at hx
    obtain ⟨n, hn⟩ : ∃ n, n = st.pend.length := ⟨_, rfl⟩
    rw [← hn] at hv hil
    have HJ : Hid (i < n) := hil
    have HC : Hid (∀ X, Row X w.heap.size L tRL → X.cell? ⟨w.heap.size, 66, none⟩ = some (.slice (some ⟨g, o, none⟩) n cap)) := fun X r => by rw [hL] at r; have := (h.row r).1; rwa [hv] at this
    have HR : Hid (∀ X, Below w.heap.size w X → X.rangeAt g (o + i * 90) x.cells) := fun X kx => range_be hrg kx
    obtain ⟨Z, hZ⟩ : ∃ Z, Z = x.cells := ⟨_, rfl⟩
    have HIZ : Hid ((Try.prog.info? tP).map (·.size) = some Z.length) := by show _ = _; rw [hZ]; exact Pn.info hxw
    have HO : Hid (Z.toArray.all (·.oneCell') = true) := by show _ = _; rw [hZ]; exact all_one (Pn.one x)
    have HLN : Hid (Z.length = zP.cells.length) := by show _ = _; rw [hZ]; exact (Pn.len hxw).trans (Pn.len zP_wf).symm
    have hlt : ¬ ((i : Int) < 0) := by omega
    rw [← hZ] at HR ⊢
    clear h hf hI hL hx hxw hv hrg hil hn hZ hr
    go_enter Try.func63, Try.ntmps63
    go_wp2_with (first
      | (refine wpList_bxG tRL rfl (.tmp 0) rfl L rfl ?_; intro X1 q1 q2 q3; clear q3; have R1 : Hid (Row X1 w.heap.size L tRL) := q1; have BX1 : Hid (Below w.heap.size w X1) := q2; clear q1 q2; simp only [Act.put, List.setIfInBounds_toArray, List.set_cons_zero, List.set_cons_succ])
      | (refine wpList_alP rfl rfl ?_; intro X2 q1 q2 q3; clear q3; have RX2 : Hid (Row X2 X1.heap.size zP.cells tP) := q1; have BX2 : Hid (Below w.heap.size w X2) := BX1.out.trans (q2.mono BX1.out.size); have R12 : Hid (Row X2 w.heap.size L tRL) := Row.below R1.out q2 R1.out.lt; clear q1 q2; simp only [Act.put, List.setIfInBounds_toArray, List.set_cons_zero, List.set_cons_succ])
      | (refine wpList_ldS rfl tRL (.tmp 2) rfl w.heap.size 0 rfl L _ R12.out.all Try.underlying44 rfl HI.out ?_; simp only [Act.put, List.setIfInBounds_toArray, List.set_cons_zero, List.set_cons_succ])
      | (go_at_call 90; refine Calls.mono (HPL.out _ BX2.out) ?_; rintro e X3 ⟨rfl, q⟩; have B3 : Hid (Below w.heap.size w X3) := BX2.out.trans (q.mono BX2.out.size); have R13 : Hid (Row X3 w.heap.size L tRL) := Row.below R12.out q R12.out.lt; have R23 : Hid (Row X3 X1.heap.size zP.cells tP) := Row.below RX2.out q RX2.out.lt; have c66 := HC.out X3 R13.out; clear q R12)
      | (refine wpList_ixL tPs tP (.tmp 14) (.tmp 15) rfl g o n cap i 90 rfl rfl HJ.out Try.underlying42 info_P rfl ?_; simp only [Act.put, List.setIfInBounds_toArray, List.set_cons_zero, List.set_cons_succ])
      | (refine wpList_ldS rfl tP (.tmp 16) rfl g (o + i * 90) rfl Z _ (HR.out _ B3.out) Try.underlying66 rfl HIZ.out ?_; simp only [Act.put, List.setIfInBounds_toArray, List.set_cons_zero, List.set_cons_succ])
      | (refine wpList_stL rfl tP (.tmp 4) (.tmp 17) rfl X1.heap.size Z zP.cells tP rfl rfl R23.out HLN.out HIZ.out HO.out ?_; intro X4 q1 q2; have R4 : Hid (Row X4 X1.heap.size Z tP) := q1; have B4 : Hid (Below w.heap.size w X4) := gro_newL B3.out BX1.out.size q2; clear q1 q2))
    exact bodyPost_ret (results_rSt Try.results63 _ _ X1.heap.size tP Z (.int .i64 0) rfl rfl R4.out Try.underlying66 HIZ.out) rfl ⟨rfl, B4.out⟩
def La.bef (st : La) (nr : Int) : Cm × Int := match fiN st.pend nr with
  | none => (zC, 164)
  | some i => (st.beh i, 0)
set_option maxRecDepth 100000 in
set_option maxHeartbeats 4000000 in
theorem rbefore_any {w : World} {v : Value} {B : Int} {st : La} (h : Rf w v B st) (nr : Int) (L : List Value) (hL : L = st.dc v) (y : Cm) (E : Int) (hr : st.bef nr = (y, E)) : Calls Try.prog 65 #[.agg L.toArray, .int .i64 nr] w fun e w' => e = .returned (.tuple #[.agg y.cells.toArray, .int .i64 E]) ∧ Below w.heap.size w w' := by
  obtain ⟨I, hI⟩ : ∃ I, I = fiI st.pend nr := ⟨_, rfl⟩
  have HPL : Hid (∀ X, Below w.heap.size w X → Calls Try.prog 90 #[.agg L.toArray, .int .i64 nr] X fun e w' => e = .returned (.int .i64 I) ∧ Below X.heap.size X w') := fun X k => by rw [hI]; exact rplace_any (h.be k) nr L hL
  have HI : Hid ((Try.prog.info? tRL).map (·.size) = some L.length) := by show _ = _; rw [hL]; exact La.dinfo h.ok.cf v
  unfold La.bef at hr
  unfold fiI at hI
  cases hf : fiN st.pend nr with
  | none =>
    rw [hf] at hr hI
    obtain ⟨rfl, rfl⟩ := Prod.mk.inj hr
    have hI2 : I = -1 := hI
    subst hI2
    obtain ⟨Z, hZ⟩ : ∃ Z, Z = zC.cells := ⟨_, rfl⟩
    have HB0 : Hid (Try.prog.built tC [] = some Z.toArray) := by show _ = _; rw [hZ]; exact built_c0
    have HIZ : Hid ((Try.prog.info? tC).map (·.size) = some Z.length) := by show _ = _; rw [hZ]; exact Cm.info zC_wf
    have HO : Hid (Z.toArray.all (·.oneCell') = true) := by show _ = _; rw [hZ]; exact all_one (Cm.one zC)
    have HLN : Hid (Z.length = zC.cells.length) := by show _ = _; rw [hZ]
    rw [← hZ]
    clear h hf hI hL hZ hr
    go_enter Try.func65, Try.ntmps65
    go_wp2_with (first
      | (refine wpList_bxG tRL rfl (.tmp 0) rfl L rfl ?_; intro X1 q1 q2 q3; clear q3; have R1 : Hid (Row X1 w.heap.size L tRL) := q1; have BX1 : Hid (Below w.heap.size w X1) := q2; clear q1 q2; simp only [Act.put, List.setIfInBounds_toArray, List.set_cons_zero, List.set_cons_succ])
      | (refine wpList_alC rfl rfl ?_; intro X2 q1 q2 q3; clear q3; have RX2 : Hid (Row X2 X1.heap.size zC.cells tC) := q1; have BX2 : Hid (Below w.heap.size w X2) := BX1.out.trans (q2.mono BX1.out.size); have R12 : Hid (Row X2 w.heap.size L tRL) := Row.below R1.out q2 R1.out.lt; clear q1 q2; simp only [Act.put, List.setIfInBounds_toArray, List.set_cons_zero, List.set_cons_succ])
      | (refine wpList_ldS rfl tRL (.tmp 2) rfl w.heap.size 0 rfl L _ R12.out.all Try.underlying44 rfl HI.out ?_; simp only [Act.put, List.setIfInBounds_toArray, List.set_cons_zero, List.set_cons_succ])
      | (go_at_call 90; refine Calls.mono (HPL.out _ BX2.out) ?_; rintro e X3 ⟨rfl, q⟩; have B3 : Hid (Below w.heap.size w X3) := BX2.out.trans (q.mono BX2.out.size); have R13 : Hid (Row X3 w.heap.size L tRL) := Row.below R12.out q R12.out.lt; have R23 : Hid (Row X3 X1.heap.size zC.cells tC) := Row.below RX2.out q RX2.out.lt; clear q R12)
      | (refine wpList_blt rfl tC _ rfl [] rfl Z HB0.out ?_; simp only [Act.put, List.setIfInBounds_toArray, List.set_cons_zero, List.set_cons_succ])
      | (refine wpList_stL rfl tC (.tmp 4) (.tmp 12) rfl X1.heap.size Z zC.cells tC rfl rfl R23.out HLN.out HIZ.out HO.out ?_; intro X4 q1 q2; have R4 : Hid (Row X4 X1.heap.size Z tC) := q1; have B4 : Hid (Below w.heap.size w X4) := gro_newL B3.out BX1.out.size q2; clear q1 q2))
    exact bodyPost_ret (results_rSt Try.results65 _ _ X1.heap.size tC Z (.int .i64 164) rfl rfl R4.out Try.underlying25 HIZ.out) rfl ⟨rfl, B4.out⟩
  | some i =>
    rw [hf] at hr hI
    obtain ⟨hil, _⟩ := fiN_lt hf
    obtain ⟨hy, rfl⟩ := Prod.mk.inj hr
    have hI2 : I = (i : Int) := hI
    subst hI2
    have hyw : y.Wf := by rw [← hy]; exact (La.beh_wf h.ok i (by omega)).1
    obtain ⟨Z, hZ⟩ : ∃ Z, Z = y.cells := ⟨_, rfl⟩
    have HIZ : Hid ((Try.prog.info? tC).map (·.size) = some Z.length) := by show _ = _; rw [hZ]; exact Cm.info hyw
    have HO : Hid (Z.toArray.all (·.oneCell') = true) := by show _ = _; rw [hZ]; exact all_one (Cm.one y)
    have HLN : Hid (Z.length = zC.cells.length) := by show _ = _; rw [hZ]; exact (Cm.len hyw).trans (Cm.len zC_wf).symm
    have hlt : ¬ ((i : Int) < 0) := by omega
    rw [← hZ]
    cases i with
    | zero =>
      have HR : Hid (∀ X, Row X w.heap.size L tRL → X.rangeAt w.heap.size 0 Z) := fun X r => by rw [hL] at r; rw [hZ, ← hy]; exact (h.row r).2.2.2.2
      clear h hf hI hL hyw hil hZ hr hy
      go_enter Try.func65, Try.ntmps65
      go_wp2_with (first
        | (refine wpList_bxG tRL rfl (.tmp 0) rfl L rfl ?_; intro X1 q1 q2 q3; clear q3; have R1 : Hid (Row X1 w.heap.size L tRL) := q1; have BX1 : Hid (Below w.heap.size w X1) := q2; clear q1 q2; simp only [Act.put, List.setIfInBounds_toArray, List.set_cons_zero, List.set_cons_succ])
        | (refine wpList_alC rfl rfl ?_; intro X2 q1 q2 q3; clear q3; have RX2 : Hid (Row X2 X1.heap.size zC.cells tC) := q1; have BX2 : Hid (Below w.heap.size w X2) := BX1.out.trans (q2.mono BX1.out.size); have R12 : Hid (Row X2 w.heap.size L tRL) := Row.below R1.out q2 R1.out.lt; clear q1 q2; simp only [Act.put, List.setIfInBounds_toArray, List.set_cons_zero, List.set_cons_succ])
        | (refine wpList_ldS rfl tRL (.tmp 2) rfl w.heap.size 0 rfl L _ R12.out.all Try.underlying44 rfl HI.out ?_; simp only [Act.put, List.setIfInBounds_toArray, List.set_cons_zero, List.set_cons_succ])
        | (go_at_call 90; refine Calls.mono (HPL.out _ BX2.out) ?_; rintro e X3 ⟨rfl, q⟩; have B3 : Hid (Below w.heap.size w X3) := BX2.out.trans (q.mono BX2.out.size); have R13 : Hid (Row X3 w.heap.size L tRL) := Row.below R12.out q R12.out.lt; have R23 : Hid (Row X3 X1.heap.size zC.cells tC) := Row.below RX2.out q RX2.out.lt; clear q R12)
        | (refine wpList_ldS rfl tC (.tmp 15) rfl w.heap.size 0 rfl Z _ (HR.out _ R13.out) Try.underlying25 rfl HIZ.out ?_; simp only [Act.put, List.setIfInBounds_toArray, List.set_cons_zero, List.set_cons_succ])
        | (refine wpList_stL rfl tC (.tmp 4) (.tmp 16) rfl X1.heap.size Z zC.cells tC rfl rfl R23.out HLN.out HIZ.out HO.out ?_; intro X4 q1 q2; have R4 : Hid (Row X4 X1.heap.size Z tC) := q1; have B4 : Hid (Below w.heap.size w X4) := gro_newL B3.out BX1.out.size q2; clear q1 q2))
      exact bodyPost_ret (results_rSt Try.results65 _ _ X1.heap.size tC Z (.int .i64 0) rfl rfl R4.out Try.underlying25 HIZ.out) rfl ⟨rfl, B4.out⟩
    | succ j =>
      obtain ⟨x, hx⟩ : ∃ x, st.pend[j]? = some x := ⟨_, List.getElem?_eq_getElem (by omega)⟩
      have hcx : y = x.c := by rw [← hy, La.beh, if_neg (Nat.succ_ne_zero j), Nat.add_sub_cancel, List.getD_eq_getElem?_getD, hx]; rfl
      obtain ⟨g, o, cap, hv, _, hrg⟩ := h.at hx
      obtain ⟨n, hn⟩ : ∃ n, n = st.pend.length := ⟨_, rfl⟩
      rw [← hn] at hv hil
      have HJ : Hid (j < n) := by show _ < _; omega
      have HC : Hid (∀ X, Row X w.heap.size L tRL → X.cell? ⟨w.heap.size, 66, none⟩ = some (.slice (some ⟨g, o, none⟩) n cap)) := fun X r => by rw [hL] at r; have := (h.row r).1; rwa [hv] at this
      have HR : Hid (∀ X, Below w.heap.size w X → X.rangeAt g (o + j * 90 + 1) Z) := fun X kx i u hu => by
        rw [hZ, hcx] at hu
        have := range_be hrg kx (1 + i) u (Pn.at_c x i u hu)
        rwa [← Nat.add_assoc] at this
      have hs : IntKind.i64.wrap (((j + 1 : Nat) : Int) - 1) = (j : Int) := by rw [IntKind.wrap_i64]; have := h.ok.pl; omega
      have hz : ¬ (((j + 1 : Nat) : Int) = 0) := by omega
      obtain ⟨K, hK⟩ : ∃ K : Int, K = ((j + 1 : Nat) : Int) := ⟨_, rfl⟩
      rw [← hK] at hs hz hlt HPL
      clear h hf hI hL hyw hil hZ hr hy hcx hx hv hrg hn hK
      go_enter Try.func65, Try.ntmps65
      go_wp2_with (first
        | (refine wpList_bxG tRL rfl (.tmp 0) rfl L rfl ?_; intro X1 q1 q2 q3; clear q3; have R1 : Hid (Row X1 w.heap.size L tRL) := q1; have BX1 : Hid (Below w.heap.size w X1) := q2; clear q1 q2; simp only [Act.put, List.setIfInBounds_toArray, List.set_cons_zero, List.set_cons_succ])
        | (refine wpList_alC rfl rfl ?_; intro X2 q1 q2 q3; clear q3; have RX2 : Hid (Row X2 X1.heap.size zC.cells tC) := q1; have BX2 : Hid (Below w.heap.size w X2) := BX1.out.trans (q2.mono BX1.out.size); have R12 : Hid (Row X2 w.heap.size L tRL) := Row.below R1.out q2 R1.out.lt; clear q1 q2; simp only [Act.put, List.setIfInBounds_toArray, List.set_cons_zero, List.set_cons_succ])
        | (refine wpList_ldS rfl tRL (.tmp 2) rfl w.heap.size 0 rfl L _ R12.out.all Try.underlying44 rfl HI.out ?_; simp only [Act.put, List.setIfInBounds_toArray, List.set_cons_zero, List.set_cons_succ])
        | (go_at_call 90; refine Calls.mono (HPL.out _ BX2.out) ?_; rintro e X3 ⟨rfl, q⟩; have B3 : Hid (Below w.heap.size w X3) := BX2.out.trans (q.mono BX2.out.size); have R13 : Hid (Row X3 w.heap.size L tRL) := Row.below R12.out q R12.out.lt; have R23 : Hid (Row X3 X1.heap.size zC.cells tC) := Row.below RX2.out q RX2.out.lt; have c66 := HC.out X3 R13.out; clear q R12)
        | (refine wpList_ixL tPs tP (.tmp 18) (.tmp 20) rfl g o n cap j 90 rfl rfl HJ.out Try.underlying42 info_P rfl ?_; simp only [Act.put, List.setIfInBounds_toArray, List.set_cons_zero, List.set_cons_succ])
        | (refine wpList_ldS rfl tC (.tmp 22) rfl g (o + j * 90 + 1) rfl Z _ (HR.out _ B3.out) Try.underlying25 rfl HIZ.out ?_; simp only [Act.put, List.setIfInBounds_toArray, List.set_cons_zero, List.set_cons_succ])
        | (refine wpList_stL rfl tC (.tmp 4) (.tmp 23) rfl X1.heap.size Z zC.cells tC rfl rfl R23.out HLN.out HIZ.out HO.out ?_; intro X4 q1 q2; have R4 : Hid (Row X4 X1.heap.size Z tC) := q1; have B4 : Hid (Below w.heap.size w X4) := gro_newL B3.out BX1.out.size q2; clear q1 q2))
      exact bodyPost_ret (results_rSt Try.results65 _ _ X1.heap.size tC Z (.int .i64 0) rfl rfl R4.out Try.underlying25 HIZ.out) rfl ⟨rfl, B4.out⟩
set_option maxRecDepth 100000 in
set_option maxHeartbeats 4000000 in
theorem rdrop_any {w : World} {v : Value} {B : Int} {st : La} (h : Rf w v B st) (nr : Int) (L : List Value) (hL : L = st.dc v) (st' : La) (gone : List Pn) (E : Int) (hr : st.drop nr = (st', gone, E)) : Calls Try.prog 58 #[.agg L.toArray, .int .i64 nr] w fun e w' => ∃ v' A' m c', e = .returned (.tuple #[.agg (st'.dc v').toArray, .slice A' m c', .int .i64 E]) ∧ Rf w' v' B st' ∧ Nv w v v' ∧ Pr w' A' m gone ∧ Below w.heap.size w w' := by
  obtain ⟨I, hI⟩ : ∃ I, I = fiI st.pend nr := ⟨_, rfl⟩
  have HPL : Hid (∀ X, Below w.heap.size w X → Calls Try.prog 90 #[.agg L.toArray, .int .i64 nr] X fun e w' => e = .returned (.int .i64 I) ∧ Below X.heap.size X w') := fun X k => by rw [hI]; exact rplace_any (h.be k) nr L hL
  have HI : Hid ((Try.prog.info? tRL).map (·.size) = some L.length) := by show _ = _; rw [hL]; exact La.dinfo h.ok.cf v
  have HRF : Hid (Rf w v B st) := h
  have HLL : Hid (L = st.dc v) := hL
  obtain ⟨A0, cap0, hv0, hc0, hp0⟩ := h.form
  unfold La.drop at hr
  unfold fiI at hI
  cases hf : fiN st.pend nr with
  | none =>
    rw [hf] at hr hI
    obtain ⟨k1, k2⟩ := Prod.mk.inj hr
    obtain ⟨k3, k4⟩ := Prod.mk.inj k2
    clear hr k2
    subst k1 k3 k4
    have hI2 : I = -1 := hI
    subst hI2
    have HLN : Hid (L.length = zRL.length) := by show _ = _; rw [hL, La.dlen h.ok.cf, zRL_len]
    have HIZ : Hid ((Try.prog.info? tRL).map (·.size) = some L.length) := HI.out
    have HO : Hid (L.toArray.all (·.oneCell') = true) := by show _ = _; rw [hL, hv0]; exact all_one (La.done _ _ _ _)
    clear h hf hI hL hv0 hc0 hp0
    go_enter Try.func58, Try.ntmps58
    go_wp2_with (first
      | (refine wpList_bxG tRL rfl (.tmp 0) rfl L rfl ?_; intro X1 q1 q2 q3; clear q3; have R1 : Hid (Row X1 w.heap.size L tRL) := q1; have BX1 : Hid (Below w.heap.size w X1) := q2; clear q1 q2; simp only [Act.put, List.setIfInBounds_toArray, List.set_cons_zero, List.set_cons_succ])
      | (refine wpList_alRL rfl rfl ?_; intro X2 q1 q2 q3; clear q3; have RX2 : Hid (Row X2 X1.heap.size zRL tRL) := q1; have BX2 : Hid (Below w.heap.size w X2) := BX1.out.trans (q2.mono BX1.out.size); have R12 : Hid (Row X2 w.heap.size L tRL) := Row.below R1.out q2 R1.out.lt; clear q1 q2; simp only [Act.put, List.setIfInBounds_toArray, List.set_cons_zero, List.set_cons_succ])
      | (refine wpList_ldS rfl tRL (.tmp 2) rfl w.heap.size 0 rfl L _ R12.out.all Try.underlying44 rfl HI.out ?_; simp only [Act.put, List.setIfInBounds_toArray, List.set_cons_zero, List.set_cons_succ])
      | (go_at_call 90; refine Calls.mono (HPL.out _ BX2.out) ?_; rintro e X3 ⟨rfl, q⟩; have B3 : Hid (Below w.heap.size w X3) := BX2.out.trans (q.mono BX2.out.size); have R13 : Hid (Row X3 w.heap.size L tRL) := Row.below R12.out q R12.out.lt; have R23 : Hid (Row X3 X1.heap.size zRL tRL) := Row.below RX2.out q RX2.out.lt; clear q R12)
      | (refine wpList_ldS rfl tRL (.tmp 2) rfl w.heap.size 0 rfl L _ R13.out.all Try.underlying44 rfl HI.out ?_; simp only [Act.put, List.setIfInBounds_toArray, List.set_cons_zero, List.set_cons_succ])
      | (refine wpList_stL rfl tRL (.tmp 4) (.tmp 14) rfl X1.heap.size L zRL tRL rfl rfl R23.out HLN.out HIZ.out HO.out ?_; intro X4 q1 q2; have R4 : Hid (Row X4 X1.heap.size L tRL) := q1; have B4 : Hid (Below w.heap.size w X4) := gro_newL B3.out BX1.out.size q2; clear q1 q2))
    exact bodyPost_ret (results_rStt Try.results58 _ _ X1.heap.size tRL L (.slice none 0 0) (.int .i64 164) rfl rfl rfl R4.out Try.underlying44 HI.out) rfl ⟨v, none, 0, 0, by rw [HLL.out], HRF.out.be B4.out, .inl rfl, ⟨rfl, (fun q hq => by cases hq), fun _ => rfl, (fun _ q => by cases q)⟩, B4.out⟩
  | some i =>
    rw [hf] at hr hI
    obtain ⟨hil, x, hx, _⟩ := fiN_lt hf
    obtain ⟨hs', k2⟩ := Prod.mk.inj hr
    obtain ⟨hgone, k4⟩ := Prod.mk.inj k2
    clear hr k2
    subst k4
    have hI2 : I = (i : Int) := hI
    subst hI2
    obtain ⟨g, o, cap, hv, hcap, hrg⟩ := h.at hx
    obtain ⟨n, hn⟩ : ∃ n, n = st.pend.length := ⟨_, rfl⟩
    rw [← hn] at hv hil hcap
    have hn32 : n ≤ 32 := by rw [hn]; exact h.ok.pl
    have HJ : Hid (i ≤ n) := by show _ ≤ _; omega
    have HJ2 : Hid (n ≤ cap) := hcap
    have HCUT : Hid (cutL (some ⟨g, o, none⟩) cap i 90 = some ⟨g, o + i * 90, none⟩) := cutL_some (by omega)
    have HC : Hid (∀ X, Row X w.heap.size L tRL → X.cell? ⟨w.heap.size, 66, none⟩ = some (.slice (some ⟨g, o, none⟩) n cap)) := fun X r => by rw [hL] at r; have := (h.row r).1; rwa [hv] at this
    obtain ⟨m, hm⟩ : ∃ m, m = n - i := ⟨_, rfl⟩
    have HM : Hid (n - i = m) := hm.symm
    have HGL : Hid (gone.length = m) := by show _ = _; rw [← hgone, List.length_drop, hm, hn]
    have HWG : Hid (∀ q ∈ gone, q.Wf) := fun q hq => h.ok.pw q (List.mem_of_mem_drop (by rw [← hgone] at hq; exact hq))
    have HWT : Hid (∀ q ∈ st.pend.take i, q.Wf) := fun q hq => h.ok.pw q (List.mem_of_mem_take hq)
    have HTL : Hid ((st.pend.take i).length = i) := by show _ = _; rw [List.length_take]; omega
    have HMB : Hid (m ≤ 1000000) := by show _ ≤ _; omega
    have HIB : Hid (i ≤ 1000000) := by show _ ≤ _; omega
    have hlo1 := Lo.from h.own (m := i) (by omega) (g := g) (o := o) (cap := cap) (by rw [← hn]; exact hv) (o + i * 90) (.inr ⟨rfl, by omega⟩)
    rw [pcs_drop h.ok.pw, ← hn, ← hm, hgone] at hlo1
    have hto1 := Lo.to h.own (m := i) (by omega) (A := some ⟨g, o, none⟩) (cap := cap) (by rw [← hn]; exact hv)
    rw [pcs_take h.ok.pw] at hto1
    have HCP1 : Hid (∀ X, Below w.heap.size w X → Calls Try.prog 89 #[.slice (some ⟨g, o + i * 90, none⟩) m (cap - i)] X fun e w' => ∃ g, e = .returned (.slice (some ⟨g, 0, none⟩) m m) ∧ X.heap.size ≤ g ∧ Row w' g (pcs gone) tP ∧ Below X.heap.size X w') := fun X kx => rcopied_any X _ m _ gone (Pr.ofLo (hlo1.be kx) HGL.out HWG.out) HMB.out
    have HCP2 : Hid (∀ X, Below w.heap.size w X → Calls Try.prog 89 #[.slice (some ⟨g, o, none⟩) i cap] X fun e w' => ∃ g, e = .returned (.slice (some ⟨g, 0, none⟩) i i) ∧ X.heap.size ≤ g ∧ Row w' g (pcs (st.pend.take i)) tP ∧ Below X.heap.size X w') := fun X kx => rcopied_any X _ i _ (st.pend.take i) (Pr.ofLo (hto1.be kx) HTL.out HWT.out) HIB.out
    have HLE : Hid (66 < L.length) := by show _ < _; rw [hL, La.dlen h.ok.cf]; decide
    have HST : Hid (∀ g6, L.set 66 (.slice (some ⟨g6, 0, none⟩) i i) = st'.dc (.slice (some ⟨g6, 0, none⟩) i i)) := fun g6 => by rw [hL, La.dset66 h.ok.cf, ← hs']; rfl
    have HOK : Hid (st'.Ok B ∧ st'.pend = st.pend.take i) := by rw [← hs']; exact ⟨La.take_ok h.ok i, rfl⟩
    have hlt : ¬ ((i : Int) < 0) := by omega
    clear h hf hI hL hx hv hrg hil hn hm hs' hgone hv0 hc0 hp0 hlo1 hto1 hcap hn32
    go_enter Try.func58, Try.ntmps58
    go_wp2_with (first
      | (refine wpList_bxG tRL rfl (.tmp 0) rfl L rfl ?_; intro X1 q1 q2 q3; clear q3; have R1 : Hid (Row X1 w.heap.size L tRL) := q1; have BX1 : Hid (Below w.heap.size w X1) := q2; clear q1 q2; simp only [Act.put, List.setIfInBounds_toArray, List.set_cons_zero, List.set_cons_succ])
      | (refine wpList_alRL rfl rfl ?_; intro X2 q1 q2 q3; clear q3; have RX2 : Hid (Row X2 X1.heap.size zRL tRL) := q1; have BX2 : Hid (Below w.heap.size w X2) := BX1.out.trans (q2.mono BX1.out.size); have R12 : Hid (Row X2 w.heap.size L tRL) := Row.below R1.out q2 R1.out.lt; clear q1 q2; simp only [Act.put, List.setIfInBounds_toArray, List.set_cons_zero, List.set_cons_succ])
      | (refine wpList_ldS rfl tRL (.tmp 2) rfl w.heap.size 0 rfl L _ R12.out.all Try.underlying44 rfl HI.out ?_; simp only [Act.put, List.setIfInBounds_toArray, List.set_cons_zero, List.set_cons_succ])
      | (go_at_call 90; refine Calls.mono (HPL.out _ BX2.out) ?_; rintro e X3 ⟨rfl, q⟩; have B3 : Hid (Below w.heap.size w X3) := BX2.out.trans (q.mono BX2.out.size); have R13 : Hid (Row X3 w.heap.size L tRL) := Row.below R12.out q R12.out.lt; have R23 : Hid (Row X3 X1.heap.size zRL tRL) := Row.below RX2.out q RX2.out.lt; have c66 := HC.out X3 R13.out; clear q R12)
      | (refine wpList_cutF rfl tPs tP (.tmp 16) (.tmp 17) (some ⟨g, o, none⟩) n cap i 90 rfl rfl rfl HJ.out Try.underlying42 info_P ?_; rw [HCUT.out, HM.out]; simp only [Act.put, List.setIfInBounds_toArray, List.set_cons_zero, List.set_cons_succ])
      | (go_at_call 89; refine Calls.mono (HCP1.out _ B3.out) ?_; rintro e X5 ⟨gX5, rfl, q0, q1, q2⟩; have GX5 : Hid (w.heap.size ≤ gX5) := Nat.le_trans B3.out.size q0; have NX5 : Hid (X3.heap.size ≤ gX5) := q0; have CX5 : Hid (Row X5 gX5 (pcs gone) tP) := q1; have BX5 : Hid (Below w.heap.size w X5) := B3.out.trans (q2.mono B3.out.size); have R15 : Hid (Row X5 w.heap.size L tRL) := Row.below R13.out q2 R13.out.lt; have R25 : Hid (Row X5 X1.heap.size zRL tRL) := Row.below R23.out q2 R23.out.lt; clear c66; have c66 := HC.out X5 R15.out; clear HCP1; clear q0 q1 q2)
      | (refine wpList_cutT rfl tPs tP (.tmp 21) (.tmp 22) (some ⟨g, o, none⟩) n cap i 90 rfl rfl rfl HJ.out HJ2.out Try.underlying42 info_P ?_; simp only [Act.put, List.setIfInBounds_toArray, List.set_cons_zero, List.set_cons_succ])
      | (go_at_call 89; refine Calls.mono (HCP2.out _ BX5.out) ?_; rintro e X6 ⟨gX6, rfl, q0, q1, q2⟩; have GX6 : Hid (w.heap.size ≤ gX6) := Nat.le_trans BX5.out.size q0; have NX6 : Hid (X5.heap.size ≤ gX6) := q0; have CX6 : Hid (Row X6 gX6 (pcs (st.pend.take i)) tP) := q1; have BX6 : Hid (Below w.heap.size w X6) := BX5.out.trans (q2.mono BX5.out.size); have R16 : Hid (Row X6 w.heap.size L tRL) := Row.below R15.out q2 R15.out.lt; have R26 : Hid (Row X6 X1.heap.size zRL tRL) := Row.below R25.out q2 R25.out.lt; have C56 : Hid (Row X6 gX5 (pcs gone) tP) := Row.below CX5.out q2 CX5.out.lt; clear c66; clear q0 q1 q2)
      | (refine wpList_st1 rfl tPs (.tmp 25) (.tmp 24) rfl w.heap.size 66 (.slice (some ⟨gX6, 0, none⟩) i i) L tRL rfl rfl rfl R16.out HLE.out info_Ps rfl ?_; intro X7 q1 q2; have R17 : Hid (Row X7 w.heap.size (L.set 66 (.slice (some ⟨gX6, 0, none⟩) i i)) tRL) := q1; have B7 : Hid (Below w.heap.size w X7) := gro_newL BX6.out (Nat.le_refl _) q2; have R27 : Hid (Row X7 X1.heap.size zRL tRL) := q2.row R26.out (fun e => by have := R1.out.lt; omega); have C57 : Hid (Row X7 gX5 (pcs gone) tP) := q2.row C56.out (fun e => by have := R1.out.lt; have := R13.out.lt; have := NX5.out; omega); have C67 : Hid (Row X7 gX6 (pcs (st.pend.take i)) tP) := q2.row CX6.out (fun e => by have := R15.out.lt; have := NX6.out; omega); have HLN : Hid ((L.set 66 (.slice (some ⟨gX6, 0, none⟩) i i)).length = zRL.length) := by { show _ = _; rw [HST.out, La.dlen HOK.out.1.cf, zRL_len] }; have HIZ : Hid ((Try.prog.info? tRL).map (·.size) = some (L.set 66 (.slice (some ⟨gX6, 0, none⟩) i i)).length) := by { show _ = _; rw [HST.out]; exact La.dinfo HOK.out.1.cf _ }; have HO : Hid ((L.set 66 (.slice (some ⟨gX6, 0, none⟩) i i)).toArray.all (·.oneCell') = true) := by { show _ = _; rw [HST.out]; exact all_one (La.done _ _ _ _) }; clear q1 q2)
      | (refine wpList_ldS rfl tRL (.tmp 2) rfl w.heap.size 0 rfl (L.set 66 (.slice (some ⟨gX6, 0, none⟩) i i)) _ R17.out.all Try.underlying44 rfl HIZ.out ?_; simp only [Act.put, List.setIfInBounds_toArray, List.set_cons_zero, List.set_cons_succ])
      | (refine wpList_stL rfl tRL (.tmp 4) (.tmp 26) rfl X1.heap.size (L.set 66 (.slice (some ⟨gX6, 0, none⟩) i i)) zRL tRL rfl rfl R27.out HLN.out HIZ.out HO.out ?_; intro X8 q1 q2; have R4 : Hid (Row X8 X1.heap.size (L.set 66 (.slice (some ⟨gX6, 0, none⟩) i i)) tRL) := q1; have B4 : Hid (Below w.heap.size w X8) := gro_newL B7.out BX1.out.size q2; have C58 : Hid (Row X8 gX5 (pcs gone) tP) := q2.row C57.out (fun e => by { have := RX2.out.lt; have := R23.out.lt; have := NX5.out; omega }); have C68 : Hid (Row X8 gX6 (pcs (st.pend.take i)) tP) := q2.row C67.out (fun e => by { have := R25.out.lt; have := NX6.out; omega }); clear q1 q2))
    exact bodyPost_ret (results_rStt Try.results58 _ _ X1.heap.size tRL (L.set 66 (.slice (some ⟨gX6, 0, none⟩) i i)) (.slice (some ⟨gX5, 0, none⟩) m m) (.int .i64 0) rfl rfl rfl R4.out Try.underlying44 HIZ.out) rfl ⟨.slice (some ⟨gX6, 0, none⟩) i i, some ⟨gX5, 0, none⟩, m, m, by rw [HST.out], ⟨by rw [HOK.out.2, HTL.out]; exact lo_row C68.out HTL.out HIB.out HWT.out, HOK.out.1⟩, .inr (fun g e => by cases e; exact GX6.out), Pr.ofLo (lo_row C58.out HGL.out HMB.out HWG.out) HGL.out HWG.out, B4.out⟩

end Go.Proofs.Ytfdbjcdcfmnicaa
