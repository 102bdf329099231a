/-
  over, known.
-/
import Derived.Test.YtelioddogdcdoaaDoorLhL
import Derived.Test.YtelioddogdcdoaaDoorWEq
namespace Go.Proofs.YtelioddogdcdoaaDoor
open Go Go.RowKit Go.Maps
open Sha
open Wd

theorem empty_lg (w W V : World) (T : Nat) (hT : Row W T [.map none, .pointer none] tT) (hB : Below w.heap.size w W) (hS : Sv V (W.heap.size + 1) T W.heap.size 0 (.map [])) (hV : Below W.heap.size W V) : Lg w V (W.heap.size + 1) 0 (fun _ => []) :=
  ⟨T, W.heap.size, 0, .map [], Nat.le_refl _, Row.below hT hV hT.lt, hS, ⟨_, rfl⟩, hB.size, hB.trans (hV.mono hB.size), fun s _ => .inl ⟨atKey_of_not_has (by simp [Maps.has]) _, rfl⟩, fun s s' C _ _ e _ => by
    rw [atKey_of_not_has (by simp [Maps.has])] at e
    simp at e, fun _ _ => by simp⟩
set_option maxRecDepth 100000 in
theorem over_nil (w : World) : Calls Tryd.prog 5 #[.slice none 0 0] w fun e w' => ∃ S, e = .returned (.pointer (some ⟨S, 0, none⟩)) ∧ Lg w w' S 0 (fun _ => []) := by
  have HN : Hid _ := newTable_any w
  go_enter Tryd.func5, Tryd.ntmps5
  go_wp2_with fail
  refine Calls.mono HN.out ?_
  rintro e V ⟨rfl, hq⟩
  have HT : Hid (Row V w.heap.size [.map none, .pointer none] tT) := by rw [hq]; exact Row.new' rfl rfl
  have HB : Hid (Below w.heap.size w V) := by rw [hq]; exact (Below.refl _ _).alloc (Nat.le_refl _) _
  clear hq HN
  generalize w.heap.size = T at HT ⊢
  go_wp2_with fail
  refine wp_loop_rounds 1 ?_
  rw [rounds_succ]
  have HO : Hid _ := over_some T V
  go_wp2_with fail
  refine Calls.mono HO.out ?_
  rintro e W ⟨rfl, hS, hV⟩
  have HS : Hid _ := hS
  have HV : Hid (Below V.heap.size V W) := hV
  clear hS hV HO
  go_wp2_with fail
  go_ret
  exact ⟨_, rfl, empty_lg _ _ _ T HT.out HB.out HS.out HV.out⟩

abbrev dA : List (BitVec 8) := [1#8, 0#8, 0#8, 0#8, 0#8, 0#8, 0#8, 0#8, 0#8, 0#8, 0#8, 0#8, 0#8, 0#8, 0#8, 0#8, 0#8, 0#8, 0#8, 0#8]
abbrev dB : List (BitVec 8) := [2#8, 0#8, 0#8, 0#8, 0#8, 0#8, 0#8, 0#8, 0#8, 0#8, 0#8, 0#8, 0#8, 0#8, 0#8, 0#8, 0#8, 0#8, 0#8, 0#8]
abbrev zA : List Value := [.int .u8 0, .int .u8 0, .int .u8 0, .int .u8 0, .int .u8 0, .int .u8 0, .int .u8 0, .int .u8 0, .int .u8 0, .int .u8 0, .int .u8 0, .int .u8 0, .int .u8 0, .int .u8 0, .int .u8 0, .int .u8 0, .int .u8 0, .int .u8 0, .int .u8 0, .int .u8 0]
theorem build_ad (k : Nat) (hk : k = 1 ∨ k = 2) (d : List (BitVec 8)) (hd : d = if k = 1 then dA else dB) (w : World) : (Instr.build 33 #[(0, .int .u8 (k : Int))]).run Tryd.prog w = .ok (.agg (vB d).toArray) w := by
  subst hd
  rcases hk with rfl | rfl
  · rw [if_pos rfl, show vB dA = [.int .u8 1, .int .u8 0, .int .u8 0, .int .u8 0, .int .u8 0, .int .u8 0, .int .u8 0, .int .u8 0, .int .u8 0, .int .u8 0, .int .u8 0, .int .u8 0, .int .u8 0, .int .u8 0, .int .u8 0, .int .u8 0, .int .u8 0, .int .u8 0, .int .u8 0, .int .u8 0] from rfl, show (((1 : Nat)) : Int) = 1 from rfl]
    go_simp
  · rw [if_neg (by decide), show vB dB = [.int .u8 2, .int .u8 0, .int .u8 0, .int .u8 0, .int .u8 0, .int .u8 0, .int .u8 0, .int .u8 0, .int .u8 0, .int .u8 0, .int .u8 0, .int .u8 0, .int .u8 0, .int .u8 0, .int .u8 0, .int .u8 0, .int .u8 0, .int .u8 0, .int .u8 0, .int .u8 0] from rfl, show (((2 : Nat)) : Int) = 2 from rfl]
    go_simp
theorem build_wd (n : Int) (w : World) : (Instr.build 25 #[(0, .int .u64 n), (1, .int .u64 0), (2, .int .u64 0), (3, .int .u64 0)]).run Tryd.prog w = .ok (.agg #[.int .u64 n, .int .u64 0, .int .u64 0, .int .u64 0]) w := by
  go_simp
section
variable {ops : Array Oper} {rest : List Oper} {op : Oper} {a : Act} {w : World} {Q : Exit → Act → World → Prop}
theorem wpList_buildAd (hgd : op.guard = none) (k : Nat) (hk : k = 1 ∨ k = 2) (ho : op.op = .build 33 #[(0, .const (.int .u8 (k : Int)))]) (d : List (BitVec 8)) (hd : d = if k = 1 then dA else dB) (h : wpList Tryd.prog ops Q rest (a.put op.dst (.agg (vB d).toArray)) w) : wpList Tryd.prog ops Q (op :: rest) a w :=
  wpList_plain hgd fun _ hK => by
    have hr := build_ad k hk d hd w
    have h1 : a.eval (.const (.int .u8 (k : Int))) = .int .u8 (k : Int) := rfl
    unfold Oper.wp execOp
    simp only [ho, List.map_toArray, List.map_cons, List.map_nil, h1, Sem.run_bind, hr, Result.andThen_ok, Sem.run_pure, Oper.upon_value]
    exact hK _ _ h
theorem wpList_allocA (hgd : op.guard = none) (ho : op.op = .alloc 33) (h : ∀ X, Row X w.heap.size zA 33 → Below w.heap.size w X → X.heap.size = w.heap.size + 1 → wpList Tryd.prog ops Q rest (a.put op.dst (.pointer (some ⟨w.heap.size, 0, none⟩))) X) : wpList Tryd.prog ops Q (op :: rest) a w :=
  wpList_plain hgd fun _ hK => by
    unfold Oper.wp execOp
    simp only [ho]
    go_simp
    exact hK _ _ (h _ (Row.new' (cs := zA) rfl rfl) ((Below.refl _ _).alloc (Nat.le_refl _) _) (by simp))
theorem wpList_buildWd (hw : Region.wanted op (yielded ops a.tmps) = true) (n : Int) (ho : op.op = .build 25 #[(0, .const (.int .u64 n)), (1, .const (.int .u64 0)), (2, .const (.int .u64 0)), (3, .const (.int .u64 0))]) (L : List Value) (hL : L = [.int .u64 n, .int .u64 0, .int .u64 0, .int .u64 0]) (h : wpList Tryd.prog ops Q rest (a.put op.dst (.agg L.toArray)) w) : wpList Tryd.prog ops Q (op :: rest) a w :=
  BigFrame.wpList_want hw fun _ hK => by
    subst hL
    have hr := build_wd n w
    have h1 : a.eval (.const (.int .u64 n)) = .int .u64 n := rfl
    have h0 : a.eval (.const (.int .u64 0)) = .int .u64 0 := rfl
    unfold Oper.wp execOp
    simp only [ho, List.map_toArray, List.map_cons, List.map_nil, h1, h0, Sem.run_bind, hr, Result.andThen_ok, Sem.run_pure, Oper.upon_value]
    exact hK _ _ h
end
theorem ad_one {d : List (BitVec 8)} : (vB d).toArray.all (·.oneCell') = true := by rw [← Array.all_toList]; exact List.all_eq_true.2 (vB_one d)
theorem sB_same (bal : List (BitVec 8) → Nat) (x : List (BitVec 8)) (v : Nat) : sB bal x v x = v := if_pos rfl
theorem sB_other (bal : List (BitVec 8) → Nat) (x : List (BitVec 8)) (v : Nat) (z : List (BitVec 8)) (h : z ≠ x) : sB bal x v z = bal z := if_neg h
theorem mB_fr (bal : List (BitVec 8) → Nat) (x y : List (BitVec 8)) (b : Nat) (h : x ≠ y) : mB bal x y b x = bal x - b := by unfold mB; rw [if_neg h, sB_other _ _ _ _ h, sB_same]
theorem mB_to (bal : List (BitVec 8) → Nat) (x y : List (BitVec 8)) (b : Nat) (h : x ≠ y) : mB bal x y b y = bal y + b := by unfold mB; rw [if_neg h, sB_same]
theorem sA_same (al : List (BitVec 8) → List (BitVec 8) → Nat) (x y : List (BitVec 8)) (v : Nat) : sA al x y v x y = v := if_pos ⟨rfl, rfl⟩
set_option maxRecDepth 100000 in
set_option maxHeartbeats 4000000 in
theorem known_any (w : World) : Calls Tryd.prog 4 #[] w fun e w' => e = .returned (.bool true) ∧ Below w.heap.size w w' := by
  obtain ⟨da, hda⟩ : ∃ d, d = dA := ⟨_, rfl⟩
  obtain ⟨db, hdb⟩ : ∃ d, d = dB := ⟨_, rfl⟩
  have Hda : Hid (da.length = 20) := by show _ = _; rw [hda]; rfl
  have Hdb : Hid (db.length = 20) := by show _ = _; rw [hdb]; rfl
  have HdaI : Hid ((Tryd.prog.info? 33).map (·.size) = some (vB da).length) := info_adr Hda.out
  have HdaN : Hid ((vB da).length = zA.length) := by show _ = _; rw [vB_length, Hda.out]; rfl
  have HdaO : Hid ((vB da).toArray.all (·.oneCell') = true) := ad_one
  have HdbI : Hid ((Tryd.prog.info? 33).map (·.size) = some (vB db).length) := info_adr Hdb.out
  have HdbN : Hid ((vB db).length = zA.length) := by show _ = _; rw [vB_length, Hdb.out]; rfl
  have HdbO : Hid ((vB db).toArray.all (·.oneCell') = true) := ad_one
  have HDA : Hid (da = if 1 = 1 then dA else dB) := by show _ = _; rw [hda]; rfl
  have HDB : Hid (db = if 2 = 1 then dA else dB) := by show _ = _; rw [hdb]; rfl
  have hne : da ≠ db := by rw [hda, hdb]; decide
  obtain ⟨L10, hL10⟩ : ∃ L : List Value, L = wq 10 := ⟨_, rfl⟩
  have HL10E : Hid (L10 = wq 10) := hL10
  have HL10I : Hid ((Tryd.prog.info? 25).map (·.size) = some L10.length) := by show _ = _; rw [hL10]; exact info_wq _
  have HL10J : Hid ((Tryd.prog.info? 25).map (·.size) = some L10.toArray.size) := by show _ = _; rw [List.size_toArray, hL10]; exact info_wq _
  have HL10N : Hid (L10.length = zW.length) := by show _ = _; rw [hL10]; exact wq_len _
  have HL10O : Hid (L10.toArray.all (·.oneCell') = true) := by show _ = true; rw [hL10]; exact wq_one _
  have HL10D : Hid (L10 = [.int .u64 10, .int .u64 0, .int .u64 0, .int .u64 0]) := by show _ = _; rw [hL10]; rfl
  obtain ⟨L4, hL4⟩ : ∃ L : List Value, L = wq 4 := ⟨_, rfl⟩
  have HL4E : Hid (L4 = wq 4) := hL4
  have HL4I : Hid ((Tryd.prog.info? 25).map (·.size) = some L4.length) := by show _ = _; rw [hL4]; exact info_wq _
  have HL4J : Hid ((Tryd.prog.info? 25).map (·.size) = some L4.toArray.size) := by show _ = _; rw [List.size_toArray, hL4]; exact info_wq _
  have HL4N : Hid (L4.length = zW.length) := by show _ = _; rw [hL4]; exact wq_len _
  have HL4O : Hid (L4.toArray.all (·.oneCell') = true) := by show _ = true; rw [hL4]; exact wq_one _
  have HL4D : Hid (L4 = [.int .u64 4, .int .u64 0, .int .u64 0, .int .u64 0]) := by show _ = _; rw [hL4]; rfl
  obtain ⟨L7, hL7⟩ : ∃ L : List Value, L = wq 7 := ⟨_, rfl⟩
  have HL7E : Hid (L7 = wq 7) := hL7
  have HL7I : Hid ((Tryd.prog.info? 25).map (·.size) = some L7.length) := by show _ = _; rw [hL7]; exact info_wq _
  have HL7J : Hid ((Tryd.prog.info? 25).map (·.size) = some L7.toArray.size) := by show _ = _; rw [List.size_toArray, hL7]; exact info_wq _
  have HL7N : Hid (L7.length = zW.length) := by show _ = _; rw [hL7]; exact wq_len _
  have HL7O : Hid (L7.toArray.all (·.oneCell') = true) := by show _ = true; rw [hL7]; exact wq_one _
  have HL7D : Hid (L7 = [.int .u64 7, .int .u64 0, .int .u64 0, .int .u64 0]) := by show _ = _; rw [hL7]; rfl
  obtain ⟨L6, hL6⟩ : ∃ L : List Value, L = wq 6 := ⟨_, rfl⟩
  have HL6E : Hid (L6 = wq 6) := hL6
  have HL6I : Hid ((Tryd.prog.info? 25).map (·.size) = some L6.length) := by show _ = _; rw [hL6]; exact info_wq _
  have HL6J : Hid ((Tryd.prog.info? 25).map (·.size) = some L6.toArray.size) := by show _ = _; rw [List.size_toArray, hL6]; exact info_wq _
  have HL6N : Hid (L6.length = zW.length) := by show _ = _; rw [hL6]; exact wq_len _
  have HL6O : Hid (L6.toArray.all (·.oneCell') = true) := by show _ = true; rw [hL6]; exact wq_one _
  have HL6D : Hid (L6 = [.int .u64 6, .int .u64 0, .int .u64 0, .int .u64 0]) := by show _ = _; rw [hL6]; rfl
  obtain ⟨LT, hLT⟩ : ∃ L : List Value, L = tkl true false 10 := ⟨_, rfl⟩
  have HLTE : Hid (LT = tkl true false 10) := hLT
  have HLTI : Hid ((Tryd.prog.info? 44).map (·.size) = some LT.length) := by show _ = _; rw [hLT]; exact info_tkl _ _ _
  have HLTJ : Hid ((Tryd.prog.info? 44).map (·.size) = some LT.toArray.size) := by show _ = _; rw [List.size_toArray, hLT]; exact info_tkl _ _ _
  have HLTN : Hid (LT.length = zK.length) := by show _ = _; rw [hLT]; exact tkl_len _ _ _
  have HLTO : Hid (LT.toArray.all (·.oneCell') = true) := by show _ = true; rw [hLT]; exact tkl_one _ _ _
  obtain ⟨A0, hA0⟩ : ∃ A : List (BitVec 8) → List (BitVec 8) → Nat, A = fun _ _ => 0 := ⟨_, rfl⟩
  obtain ⟨B0, hB0⟩ : ∃ B : List (BitVec 8) → Nat, B = fun _ => 0 := ⟨_, rfl⟩
  obtain ⟨B1, hB1⟩ : ∃ B, B = sB B0 da (B0 da + 10) := ⟨_, rfl⟩
  obtain ⟨B2, hB2⟩ : ∃ B, B = mB B1 da db 4 := ⟨_, rfl⟩
  have g0 : ∀ x, B0 x = 0 := fun x => by rw [hB0]
  have g1a : B1 da = 10 := by rw [hB1, sB_same, g0]
  have g1b : B1 db = 0 := by rw [hB1, sB_other _ _ _ _ (Ne.symm hne), g0]
  have g2a : B2 da = 6 := by rw [hB2, mB_fr _ _ _ _ hne, g1a]
  have g2b : B2 db = 4 := by rw [hB2, mB_to _ _ _ _ hne, g1b]
  have HRG : Hid (∀ S W, Lg w W S 0 (fun _ => []) → Calls Tryd.prog 7 #[.pointer (some ⟨S, 0, none⟩), .int .i64 5] W fun e w' => e = .returned (.int .i64 0) ∧ Led w w' S 2 5 0 B0 A0 ∧ Kp W w') := fun S W hW => by rw [hA0, hB0]; exact regL w S 0 5 (by decide) (by decide) W hW
  have HMI : Hid (∀ S W, Led w W S 2 5 0 B0 A0 → Calls Tryd.prog 8 #[.pointer (some ⟨S, 0, none⟩), .int .i64 5, .agg (vB da).toArray, .agg L10.toArray] W fun e w' => e = .returned (.int .i64 0) ∧ Led w w' S 6 5 10 B1 A0 ∧ Kp W w') := fun S W hW => by rw [hB1]; exact mntL w S 2 5 0 B0 A0 (by decide) (by decide) 10 (by decide) (by decide) da Hda.out (by rw [g0]; decide) (by decide) (by rw [g0]; decide) L10 hL10 W hW
  have HM1 : Hid (∀ S W, Led w W S 6 5 10 B1 A0 → Calls Tryd.prog 9 #[.pointer (some ⟨S, 0, none⟩), .int .i64 5, .agg (vB da).toArray, .agg (vB db).toArray, .agg L4.toArray] W fun e w' => e = .returned (.int .i64 0) ∧ Led w w' S 11 5 10 B2 A0 ∧ Kp W w') := fun S W hW => by rw [hB2]; exact movL w S 6 5 10 B1 A0 (by decide) (by decide) (by decide) da db Hda.out Hdb.out 4 (by decide) (by rw [g1a]; decide) (by rw [g1b]; decide) (by rw [g1a]; decide) (fun _ => by rw [g1b]; decide) L4 hL4 W hW
  have HM2 : Hid (∀ S W, Led w W S 11 5 10 B2 A0 → Calls Tryd.prog 9 #[.pointer (some ⟨S, 0, none⟩), .int .i64 5, .agg (vB da).toArray, .agg (vB db).toArray, .agg L7.toArray] W fun e w' => e = .returned (.int .i64 85) ∧ Led w w' S 16 5 10 B2 A0 ∧ Kp W w') := fun S W hW => movLN w S 11 5 10 B2 A0 (by decide) (by decide) (by decide) da db Hda.out Hdb.out 7 (by decide) (by rw [g2a]; decide) L7 hL7 W hW
  have HBA : Hid (∀ S W, Led w W S 16 5 10 B2 A0 → Calls Tryd.prog 11 #[.pointer (some ⟨S, 0, none⟩), .int .i64 5, .agg (vB da).toArray] W fun e w' => e = .returned (.tuple #[.agg L6.toArray, .int .i64 0]) ∧ Led w w' S 17 5 10 B2 A0 ∧ Kp W w') := fun S W hW => balL w S 16 5 10 B2 A0 (by decide) (by decide) da Hda.out 6 g2a (by decide) L6 hL6 W hW
  have HBB : Hid (∀ S W, Led w W S 17 5 10 B2 A0 → Calls Tryd.prog 11 #[.pointer (some ⟨S, 0, none⟩), .int .i64 5, .agg (vB db).toArray] W fun e w' => e = .returned (.tuple #[.agg L4.toArray, .int .i64 0]) ∧ Led w w' S 18 5 10 B2 A0 ∧ Kp W w') := fun S W hW => balL w S 17 5 10 B2 A0 (by decide) (by decide) db Hdb.out 4 g2b (by decide) L4 hL4 W hW
  have HTO : Hid (∀ S W, Led w W S 18 5 10 B2 A0 → Calls Tryd.prog 16 #[.pointer (some ⟨S, 0, none⟩), .int .i64 5] W fun e w' => e = .returned (.tuple #[.agg LT.toArray, .int .i64 0]) ∧ Led w w' S 19 5 10 B2 A0 ∧ Kp W w') := fun S W hW => tokL w S 18 5 10 B2 A0 (by decide) (by decide) (by decide) LT hLT W hW
  clear hda hdb hne hL10 hL4 hL7 hL6 hLT hA0 hB0 hB1 hB2 g0 g1a g1b g2a g2b
  go_enter Tryd.func4, Tryd.ntmps4
  go_wp2_with fail
  refine Calls.mono (over_nil w) ?_
  rintro e V0 ⟨S, rfl, hG⟩
  have HG : Hid (Lg w V0 S 0 (fun _ => [])) := hG
  clear hG
  obtain ⟨b2, hb2⟩ : ∃ b, b = V0.heap.size := ⟨_, rfl⟩
  have HBb2 : Hid (b2 = V0.heap.size) := hb2
  clear hb2
  go_upto_region 5 with (first
    | (refine wpList_buildAd rfl 1 (.inl rfl) rfl da HDA.out ?_; simp only [Act.put, List.setIfInBounds_toArray, List.set_cons_zero, List.set_cons_succ])
    | (refine wpList_allocA rfl rfl ?_; intro XA q1 q2 q3; have QA : Hid (Row XA _ zA 33) := q1; have BA : Hid (Below _ _ XA) := q2; clear q1 q2 q3; simp only [Act.put, List.setIfInBounds_toArray, List.set_cons_zero, List.set_cons_succ])
    | (refine wpList_storeL rfl 33 (.tmp 2) (.tmp 18) rfl V0.heap.size (vB da) zA 33 rfl rfl QA.out HdaN.out HdaI.out HdaO.out ?_; intro YA q1 q2; have HYA : Hid (YA = _) := q1; have RYA : Hid (Row YA V0.heap.size (vB da) 33) := q2; clear q1 q2; simp only [Act.put]))
  rw [← HBb2.out] at RYA HYA
  rw [← HBb2.out]
  have cb : Below V0.heap.size V0 YA := by rw [HYA.out]; exact below_setCells BA.out (by rw [HBb2.out]; exact Nat.le_refl _) _
  replace HG : Hid (Lg w YA S 0 (fun _ => [])) := HG.out.be cb
  clear cb HYA BA HBb2
  have RA : Hid (Row YA b2 (vB da) 33) := RYA.out
  obtain ⟨b3, hb3⟩ : ∃ b, b = YA.heap.size := ⟨_, rfl⟩
  have HBb3 : Hid (b3 = YA.heap.size) := hb3
  clear hb3
  go_upto_region 6 with (first
    | (refine wpList_buildAd rfl 2 (.inr rfl) rfl db HDB.out ?_; simp only [Act.put, List.setIfInBounds_toArray, List.set_cons_zero, List.set_cons_succ])
    | (refine wpList_allocA rfl rfl ?_; intro XB q1 q2 q3; have QB : Hid (Row XB _ zA 33) := q1; have BB : Hid (Below _ _ XB) := q2; clear q1 q2 q3; simp only [Act.put, List.setIfInBounds_toArray, List.set_cons_zero, List.set_cons_succ])
    | (refine wpList_storeL rfl 33 (.tmp 3) (.tmp 19) rfl YA.heap.size (vB db) zA 33 rfl rfl QB.out HdbN.out HdbI.out HdbO.out ?_; intro YB q1 q2; have HYB : Hid (YB = _) := q1; have RYB : Hid (Row YB YA.heap.size (vB db) 33) := q2; clear q1 q2; simp only [Act.put]))
  rw [← HBb3.out] at RYB HYB
  rw [← HBb3.out]
  have cb : Below YA.heap.size YA YB := by rw [HYB.out]; exact below_setCells BB.out (by rw [HBb3.out]; exact Nat.le_refl _) _
  replace RA : Hid (Row YB b2 (vB da) 33) := Row.below RA.out cb RA.out.lt
  replace HG : Hid (Lg w YB S 0 (fun _ => [])) := HG.out.be cb
  clear cb HYB BB HBb3
  have RB : Hid (Row YB b3 (vB db) 33) := RYB.out
  have HX : Hid _ := HRG.out S YB HG.out
  clear RYA RYB QA QB HRG
  go_wp2_with fail
  refine Calls.mono HX.out ?_
  rintro e V1 ⟨rfl, hG, hK⟩
  replace RA : Hid (Row V1 b2 (vB da) 33) := hK.row _ _ _ (by decide) RA.out
  replace RB : Hid (Row V1 b3 (vB db) 33) := hK.row _ _ _ (by decide) RB.out
  have HX : Hid _ := HMI.out S V1 hG
  have SA : Hid (V1.rangeAt b2 0 (vB da)) := RA.out.all
  clear hG hK HG HMI
  go_wp2_with (first
    | (refine wpList_load_w rfl 33 (.tmp 2) rfl b2 0 rfl (vB da) _ SA.out Tryd.underlying33 rfl HdaI.out ?_; simp only [Act.put, List.setIfInBounds_toArray, List.set_cons_zero, List.set_cons_succ])
    | (refine wpList_buildWd rfl 10 rfl L10 HL10D.out ?_; simp only [Act.put, List.setIfInBounds_toArray, List.set_cons_zero, List.set_cons_succ]))
  refine Calls.mono HX.out ?_
  rintro e V2 ⟨rfl, hG, hK⟩
  replace RA : Hid (Row V2 b2 (vB da) 33) := hK.row _ _ _ (by decide) RA.out
  replace RB : Hid (Row V2 b3 (vB db) 33) := hK.row _ _ _ (by decide) RB.out
  have HX : Hid _ := HM1.out S V2 hG
  replace SA : Hid (V2.rangeAt b2 0 (vB da)) := RA.out.all
  have SB : Hid (V2.rangeAt b3 0 (vB db)) := RB.out.all
  clear hG hK HM1
  go_wp2_with (first
    | (refine wpList_load_w rfl 33 (.tmp 2) rfl b2 0 rfl (vB da) _ SA.out Tryd.underlying33 rfl HdaI.out ?_; simp only [Act.put, List.setIfInBounds_toArray, List.set_cons_zero, List.set_cons_succ])
    | (refine wpList_load_w rfl 33 (.tmp 3) rfl b3 0 rfl (vB db) _ SB.out Tryd.underlying33 rfl HdbI.out ?_; simp only [Act.put, List.setIfInBounds_toArray, List.set_cons_zero, List.set_cons_succ])
    | (refine wpList_buildWd rfl 4 rfl L4 HL4D.out ?_; simp only [Act.put, List.setIfInBounds_toArray, List.set_cons_zero, List.set_cons_succ]))
  refine Calls.mono HX.out ?_
  rintro e V3 ⟨rfl, hG, hK⟩
  replace RA : Hid (Row V3 b2 (vB da) 33) := hK.row _ _ _ (by decide) RA.out
  replace RB : Hid (Row V3 b3 (vB db) 33) := hK.row _ _ _ (by decide) RB.out
  have HX : Hid _ := HM2.out S V3 hG
  replace SA : Hid (V3.rangeAt b2 0 (vB da)) := RA.out.all
  replace SB : Hid (V3.rangeAt b3 0 (vB db)) := RB.out.all
  clear hG hK HM2
  go_wp2_with (first
    | (refine wpList_load_w rfl 33 (.tmp 2) rfl b2 0 rfl (vB da) _ SA.out Tryd.underlying33 rfl HdaI.out ?_; simp only [Act.put, List.setIfInBounds_toArray, List.set_cons_zero, List.set_cons_succ])
    | (refine wpList_load_w rfl 33 (.tmp 3) rfl b3 0 rfl (vB db) _ SB.out Tryd.underlying33 rfl HdbI.out ?_; simp only [Act.put, List.setIfInBounds_toArray, List.set_cons_zero, List.set_cons_succ])
    | (refine wpList_buildWd rfl 7 rfl L7 HL7D.out ?_; simp only [Act.put, List.setIfInBounds_toArray, List.set_cons_zero, List.set_cons_succ]))
  refine Calls.mono HX.out ?_
  rintro e V4 ⟨rfl, hG, hK⟩
  replace RA : Hid (Row V4 b2 (vB da) 33) := hK.row _ _ _ (by decide) RA.out
  replace RB : Hid (Row V4 b3 (vB db) 33) := hK.row _ _ _ (by decide) RB.out
  have HX : Hid _ := HBA.out S V4 hG
  replace SA : Hid (V4.rangeAt b2 0 (vB da)) := RA.out.all
  clear hG hK HBA SB
  go_wp2_with (refine wpList_load_w rfl 33 (.tmp 2) rfl b2 0 rfl (vB da) _ SA.out Tryd.underlying33 rfl HdaI.out ?_; simp only [Act.put, List.setIfInBounds_toArray, List.set_cons_zero, List.set_cons_succ])
  refine Calls.mono HX.out ?_
  rintro e V5 ⟨rfl, hG, hK⟩
  replace RA : Hid (Row V5 b2 (vB da) 33) := hK.row _ _ _ (by decide) RA.out
  replace RB : Hid (Row V5 b3 (vB db) 33) := hK.row _ _ _ (by decide) RB.out
  have HG : Hid (Led w V5 S 17 5 10 B2 A0) := hG
  clear hG hK HX SA
  obtain ⟨b8, hb8⟩ : ∃ b, b = V5.heap.size := ⟨_, rfl⟩
  have HBb8 : Hid (b8 = V5.heap.size) := hb8
  clear hb8
  go_upto_region 11 with (first
    | (refine wpList_allocW rfl rfl ?_; intro XC q1 q2 q3; have QC : Hid (Row XC _ zW 25) := q1; have BC : Hid (Below _ _ XC) := q2; clear q1 q2 q3; simp only [Act.put, List.setIfInBounds_toArray, List.set_cons_zero, List.set_cons_succ])
    | (refine wpList_storeL rfl 25 (.tmp 8) (.tmp 40) rfl V5.heap.size L6 zW 25 rfl rfl QC.out HL6N.out HL6I.out HL6O.out ?_; intro YC q1 q2; have HYC : Hid (YC = _) := q1; have RYC : Hid (Row YC V5.heap.size L6 25) := q2; clear q1 q2; simp only [Act.put]))
  rw [← HBb8.out] at RYC HYC
  rw [← HBb8.out]
  have cb : Below V5.heap.size V5 YC := by rw [HYC.out]; exact below_setCells BC.out (by rw [HBb8.out]; exact Nat.le_refl _) _
  replace RA : Hid (Row YC b2 (vB da) 33) := Row.below RA.out cb RA.out.lt
  replace RB : Hid (Row YC b3 (vB db) 33) := Row.below RB.out cb RB.out.lt
  replace HG : Hid (Led w YC S 17 5 10 B2 A0) := HG.out.be cb
  clear cb HYC BC HBb8
  have R8 : Hid (Row YC b8 L6 25) := RYC.out
  have HX : Hid _ := HBB.out S YC HG.out
  have SB : Hid (YC.rangeAt b3 0 (vB db)) := RB.out.all
  clear RYC QC HBB RA
  go_wp2_with (refine wpList_load_w rfl 33 (.tmp 3) rfl b3 0 rfl (vB db) _ SB.out Tryd.underlying33 rfl HdbI.out ?_; simp only [Act.put, List.setIfInBounds_toArray, List.set_cons_zero, List.set_cons_succ])
  refine Calls.mono HX.out ?_
  rintro e V6 ⟨rfl, hG, hK⟩
  replace R8 : Hid (Row V6 b8 L6 25) := hK.row _ _ _ (by decide) R8.out
  replace HG : Hid (Led w V6 S 18 5 10 B2 A0) := hG
  clear hG hK HX SB RB
  obtain ⟨b10, hb10⟩ : ∃ b, b = V6.heap.size := ⟨_, rfl⟩
  have HBb10 : Hid (b10 = V6.heap.size) := hb10
  clear hb10
  go_upto_region 12 with (first
    | (refine wpList_allocW rfl rfl ?_; intro XD q1 q2 q3; have QD : Hid (Row XD _ zW 25) := q1; have BD : Hid (Below _ _ XD) := q2; clear q1 q2 q3; simp only [Act.put, List.setIfInBounds_toArray, List.set_cons_zero, List.set_cons_succ])
    | (refine wpList_storeL rfl 25 (.tmp 10) (.tmp 46) rfl V6.heap.size L4 zW 25 rfl rfl QD.out HL4N.out HL4I.out HL4O.out ?_; intro YD q1 q2; have HYD : Hid (YD = _) := q1; have RYD : Hid (Row YD V6.heap.size L4 25) := q2; clear q1 q2; simp only [Act.put]))
  rw [← HBb10.out] at RYD HYD
  rw [← HBb10.out]
  have cb : Below V6.heap.size V6 YD := by rw [HYD.out]; exact below_setCells BD.out (by rw [HBb10.out]; exact Nat.le_refl _) _
  replace R8 : Hid (Row YD b8 L6 25) := Row.below R8.out cb R8.out.lt
  replace HG : Hid (Led w YD S 18 5 10 B2 A0) := HG.out.be cb
  clear cb HYD BD HBb10
  have R10 : Hid (Row YD b10 L4 25) := RYD.out
  have HX : Hid _ := HTO.out S YD HG.out
  clear RYD QD HTO
  go_wp2_with fail
  refine Calls.mono HX.out ?_
  rintro e V7 ⟨rfl, hG, hK⟩
  replace R8 : Hid (Row V7 b8 L6 25) := hK.row _ _ _ (by decide) R8.out
  replace R10 : Hid (Row V7 b10 L4 25) := hK.row _ _ _ (by decide) R10.out
  replace HG : Hid (Led w V7 S 19 5 10 B2 A0) := hG
  clear hG hK HX
  obtain ⟨b12, hb12⟩ : ∃ b, b = V7.heap.size := ⟨_, rfl⟩
  have HBb12 : Hid (b12 = V7.heap.size) := hb12
  clear hb12
  go_upto_region 13 with (first
    | (refine wpList_allocK rfl rfl ?_; intro XE q1 q2 q3; have QE : Hid (Row XE _ zK 44) := q1; have BE : Hid (Below _ _ XE) := q2; clear q1 q2 q3; simp only [Act.put, List.setIfInBounds_toArray, List.set_cons_zero, List.set_cons_succ])
    | (refine wpList_storeL rfl 44 (.tmp 12) (.tmp 51) rfl V7.heap.size LT zK 44 rfl rfl QE.out HLTN.out HLTI.out HLTO.out ?_; intro YE q1 q2; have HYE : Hid (YE = _) := q1; have RYE : Hid (Row YE V7.heap.size LT 44) := q2; clear q1 q2; simp only [Act.put]))
  rw [← HBb12.out] at RYE HYE
  rw [← HBb12.out]
  have cb : Below V7.heap.size V7 YE := by rw [HYE.out]; exact below_setCells BE.out (by rw [HBb12.out]; exact Nat.le_refl _) _
  replace R8 : Hid (Row YE b8 L6 25) := Row.below R8.out cb R8.out.lt
  replace R10 : Hid (Row YE b10 L4 25) := Row.below R10.out cb R10.out.lt
  replace HG : Hid (Led w YE S 19 5 10 B2 A0) := HG.out.be cb
  clear cb HYE BE HBb12
  have BZ : Hid (Below w.heap.size w YE) := HG.out.bel
  have S8 : Hid (YE.rangeAt b8 0 L6) := R8.out.all
  have S10 : Hid (YE.rangeAt b10 0 L4) := R10.out.all
  have S12 : Hid (YE.rangeAt b12 2 L10) := by show World.rangeAt _ _ _ _; rw [HL10E.out]; have q := RYE.out; rw [HLTE.out] at q; exact tkl_am q
  have c12 := RYE.out.cell 0 (.bool true) (by rw [HLTE.out]; rfl)
  clear HG R8 R10 RYE QE
  go_wp2_with (first
    | (refine wpList_load_w rfl 25 (.tmp 8) rfl b8 0 rfl L6 _ S8.out Tryd.underlying25 rfl HL6I.out ?_; simp only [Act.put, List.setIfInBounds_toArray, List.set_cons_zero, List.set_cons_succ])
    | (refine wpList_load_w rfl 25 (.tmp 10) rfl b10 0 rfl L4 _ S10.out Tryd.underlying25 rfl HL4I.out ?_; simp only [Act.put, List.setIfInBounds_toArray, List.set_cons_zero, List.set_cons_succ])
    | (refine wpList_load_w rfl 25 (.tmp 95) rfl b12 2 rfl L10 _ S12.out Tryd.underlying25 rfl HL10I.out ?_; simp only [Act.put, List.setIfInBounds_toArray, List.set_cons_zero, List.set_cons_succ])
    | (refine wpList_buildWd rfl 6 rfl L6 HL6D.out ?_; simp only [Act.put, List.setIfInBounds_toArray, List.set_cons_zero, List.set_cons_succ])
    | (refine wpList_buildWd rfl 4 rfl L4 HL4D.out ?_; simp only [Act.put, List.setIfInBounds_toArray, List.set_cons_zero, List.set_cons_succ])
    | (refine wpList_buildWd rfl 10 rfl L10 HL10D.out ?_; simp only [Act.put, List.setIfInBounds_toArray, List.set_cons_zero, List.set_cons_succ])
    | (refine wpList_eqlWg rfl (.tmp 81) (.tmp 82) _ rfl 6 6 (by decide) (by decide) (by rw [← HL6E.out]; rfl) (by rw [← HL6E.out]; rfl) true (by decide) ?_; simp only [Act.put, List.setIfInBounds_toArray, List.set_cons_zero, List.set_cons_succ])
    | (refine wpList_eqlWg rfl (.tmp 86) (.tmp 87) _ rfl 4 4 (by decide) (by decide) (by rw [← HL4E.out]; rfl) (by rw [← HL4E.out]; rfl) true (by decide) ?_; simp only [Act.put, List.setIfInBounds_toArray, List.set_cons_zero, List.set_cons_succ])
    | (refine wpList_eqlWg rfl (.tmp 96) (.tmp 97) _ rfl 10 10 (by decide) (by decide) (by rw [← HL10E.out]; rfl) (by rw [← HL10E.out]; rfl) true (by decide) ?_; simp only [Act.put, List.setIfInBounds_toArray, List.set_cons_zero, List.set_cons_succ]))
  go_ret
  exact ⟨rfl, BZ.out⟩

end Go.Proofs.YtelioddogdcdoaaDoor
