/-
  sparse: Prove of a map of two keys that part at their last bit, for a third one.
-/
import Derived.Test.YtfdgdmehgbmnkaaDoorSpS
namespace Go.Proofs.YtfdgdmehgbmnkaaDoor
open Go Go.RowKit
open Sha

theorem results_rowS_tmpS {P : Program} {fn : Func} {p q : Tmp} {ty : TypeId} {fs : Array Field} (h : fn.results = #[.cell p ty, .tmp q]) (tmps : Array Value) (w : World) (g : Nat) (t : TypeId) (cs : List Value) (v : Value)
    (hp : tmps.getD p undef = .pointer (some ⟨g, 0, none⟩)) (hv : tmps.getD q undef = v) (hg : Row w g cs t) (hu : P.underlying ty = some (.struct fs)) (hi : (P.info? ty).map (·.size) = some cs.length) :
    (results fn tmps).run P w = .ok (.tuple #[.agg cs.toArray, v]) w := by
  have hp' : tmps[p]?.getD undef = .pointer (some ⟨g, 0, none⟩) := by simpa using hp
  have hv' : tmps[q]?.getD undef = v := by simpa using hv
  have hr := run_loadVar_row (P := P) w g t ty cs.toArray (0, 0) (.struct fs) hg hu rfl (by simp [hi])
  simp [results, h, hp', hv', asAddr, hr]
theorem info_pr : (Tryd.prog.info? 48).map (·.size) = some 2 := by kernel_rfl
abbrev z64v : List Value := vB (List.replicate 64 0#8)
theorem mkOneB (w : World) : (Instr.makeSlice 35 (.int .i64 1) (.int .i64 1)).run Tryd.prog w = .ok (.slice (some ⟨w.heap.size, 0, none⟩) 1 1) (w.alloc (.cells z64v.toArray 59)) := by kernel_rfl
theorem wpList_mkOneB {ops : Array Oper} {rest : List Oper} {op : Oper} {a : Act} {w : World} {Q : Exit → Act → World → Prop} (hgd : op.guard = none) (x y : Operand) (ho : op.op = .makeSlice 35 x y) (hx : a.eval x = .int .i64 1) (hy : a.eval y = .int .i64 1)
    (h : ∀ X, Row X w.heap.size z64v 59 → Below w.heap.size w X → wpList Tryd.prog ops Q rest (a.put op.dst (.slice (some ⟨w.heap.size, 0, none⟩) 1 1)) X) : wpList Tryd.prog ops Q (op :: rest) a w :=
  wpList_plain hgd fun _ hK => by
    unfold Oper.wp execOp
    simp only [ho, hx, hy, Sem.run_bind, mkOneB, Result.andThen_ok, Sem.run_pure, Oper.upon_value]
    exact hK _ _ (h _ (Row.new' rfl rfl) ((Below.refl _ _).alloc (Nat.le_refl _) _))
set_option maxRecDepth 100000 in
set_option maxHeartbeats 4000000 in

theorem rise_one (A : Option Addr) (cap : Nat) (w : World) : Calls Tryd.prog 47 #[.slice A 1 cap] w fun e w' => e = .returned (.bool true) ∧ w' = w := by
  go_enter Tryd.func47, Tryd.ntmps47
  go_wp2
  go_loopw [3] (fun i wr => i = .int .i64 1 ∧ wr = w) (fun _ _ => 0)
  case atStart => exact ⟨rfl, rfl⟩
  case round =>
    obtain ⟨rfl, rfl⟩ := hrel
    go_wp2
    go_ret
    exact ⟨rfl, rfl⟩
theorem own_s2 {W : World} {N : Nat} {v : Value} {ys : List Value} (h : W.ownsRow N 29 32 v 2 ys) : ∃ g cap, v = .slice (some ⟨g, 0, none⟩) 2 cap := by
  rcases h.2 with ⟨_, h2⟩ | ⟨g', cap', cur, hv, _⟩
  · cases h2
  · exact ⟨g', cap', hv⟩
/-- A key laid into a bound of noughts. -/
theorem bound_key {W : World} {b : Nat} (r : Row W b z64v 59) (u : List (BitVec 8)) (hu : u.length = 32) : Row (W.setCells b 0 (vB u)) b (vB (u ++ List.replicate 32 0#8)) 59 := by
  have h := Row.setCells 0 (vB u) r (by rw [vB_length, hu]; decide)
  have e : List.take 0 z64v ++ vB u ++ List.drop (0 + (vB u).length) z64v = vB (u ++ List.replicate 32 0#8) := by
    rw [vB_length, hu, vB_append]
    rfl
  rwa [e] at h
set_option maxRecDepth 100000 in
set_option maxHeartbeats 4000000 in

theorem prove_known (l r : Tr) (hm : 1 < l.size + r.size) (mb : Nat) (w : World) (hM : MapAt w mb (spn l r 255)) (kb : Nat) (hk : Row w kb (vB (lowD 2#8)) 29) :
    Calls Tryd.prog 21 #[pt mb, .slice (some ⟨kb, 0, none⟩) 1 1] w fun e w' => ∃ va g cp, e = .returned (.tuple #[.agg #[va, .slice (some ⟨g, 0, none⟩) 2 cp], .int .i64 0]) ∧ va.oneCell' = true ∧ Below w.heap.size w w' := by
  obtain ⟨q, rM, hN⟩ := hM
  obtain ⟨u, hu⟩ : ∃ u, u = lowD 2#8 := ⟨_, rfl⟩
  rw [← hu] at hk
  have hul : u.length = 32 := by rw [hu]; rfl
  have HUL : Hid (u.length = 32) := hul
  have HIU : Hid ((Tryd.prog.info? 29).map (·.size) = some (vB u).length) := by show _ = _; rw [vB_length, hul]; exact info_dig
  have HI5 : Hid ((Tryd.prog.info? 29).map (·.size) = some (vB u).toArray.size) := by show _ = _; rw [info_dig]; simp [vB_length, hul]
  have HM : Hid (∀ W, Below w.heap.size w W → W.cell? ⟨mb, 0, none⟩ = some q) := fun W k => (Row.below rM k rM.lt).cell 0 q rfl
  have HNQ : Hid (∀ W, Below w.heap.size w W → NodeAt W (spn l r 255) q) := fun W k => NodeAt.be k _ _ hN
  have HK : Hid (∀ W, Below w.heap.size w W → W.rangeAt kb 0 (vB u)) := fun W k => (Row.below hk k hk.lt).all
  obtain ⟨c0, hc0⟩ : ∃ c0, c0 = w.heap.size := ⟨_, rfl⟩
  have HC0 : Hid (c0 = w.heap.size) := hc0
  have RP : Hid (Row (w.alloc (Obj.cells #[.slice none 0 0, .slice none 0 0] 48)) c0 [.slice none 0 0, .slice none 0 0] 48) := Row.new' hc0 rfl
  have BP : Hid (Below w.heap.size w (w.alloc (Obj.cells #[.slice none 0 0, .slice none 0 0] 48))) := (Below.refl _ _).alloc (Nat.le_refl _) _
  have HU2 : Hid (u = lowD 2#8) := hu
  clear rM hN hk hul hc0 hu
  go_enter Tryd.func21, Tryd.ntmps21
  go_wp2_with (refine wpList_mkOneB rfl (.tmp 14) (.tmp 14) rfl rfl rfl ?_; intro X0 r1 q1; have R1 : Hid (Row X0 _ z64v 59) := r1; have B1 : Hid (Below w.heap.size w X0) := BP.out.trans (q1.mono BP.out.size); have P1 : Hid (Row X0 c0 [.slice none 0 0, .slice none 0 0] 48) := Row.below RP.out q1 RP.out.lt; clear r1 q1; simp only [Act.put, List.setIfInBounds_toArray, List.set_cons_zero, List.set_cons_succ])
  obtain ⟨ab, hab⟩ : ∃ ab, ab = (w.alloc (Obj.cells #[.slice none 0 0, .slice none 0 0] 48)).heap.size := ⟨_, rfl⟩
  rw [← hab] at R1 ⊢
  have HAB : Hid (w.heap.size ≤ ab) := by show _ ≤ _; rw [hab]; exact BP.out.size
  clear hab RP BP
  go_loopw [18] (fun v wr => (v = .int .i64 0 ∧ wr = X0) ∨ (v = .int .i64 1 ∧ Hid (Row wr ab (vB (u ++ List.replicate 32 0#8)) 59) ∧ Hid (Row wr c0 [.slice none 0 0, .slice none 0 0] 48) ∧ Hid (Below w.heap.size w wr))) (fun v _ => 1 - (intOf v).toNat)
  case atStart => exact .inl ⟨rfl, rfl⟩
  case round =>
    rcases hrel with ⟨rfl, rfl⟩ | ⟨rfl, hr, hp, hB⟩
    · obtain ⟨kc, hkc⟩ : ∃ kc, kc = wr.heap.size := ⟨_, rfl⟩
      have BA : Hid (Below w.heap.size w (wr.alloc (Obj.cells (vB (List.replicate 32 0#8)).toArray 29))) := B1.out.alloc B1.out.size _
      have RK : Hid (Row (wr.alloc (Obj.cells (vB (List.replicate 32 0#8)).toArray 29)) kc (vB (List.replicate 32 0#8)) 29) := Row.new' hkc rfl
      have nab : ab ≠ kc := by rw [hkc]; exact Nat.ne_of_lt R1.out.lt
      have ncc : c0 ≠ kc := by rw [hkc]; exact Nat.ne_of_lt P1.out.lt
      have nca : c0 ≠ ab := row_ne P1.out R1.out (by decide)
      have hkl : w.heap.size ≤ kc := by rw [hkc]; exact B1.out.size
      have hal : w.heap.size ≤ ab := HAB.out
      have RKB : Hid (Row ((wr.alloc (Obj.cells (vB (List.replicate 32 0#8)).toArray 29)).setCells kc 0 (vB u)) kc (vB u) 29) := RK.out.over (by rw [vB_length, HUL.out]; rfl)
      have R1B : Hid (Row ((wr.alloc (Obj.cells (vB (List.replicate 32 0#8)).toArray 29)).setCells kc 0 (vB u)) ab z64v 59) := Row.setCells_other (R1.out.alloc _) _ _ _ nab
      have R1C : Hid _ := bound_key R1B.out u HUL.out
      have PC : Hid (Row (((wr.alloc (Obj.cells (vB (List.replicate 32 0#8)).toArray 29)).setCells kc 0 (vB u)).setCells ab 0 (vB u)) c0 [.slice none 0 0, .slice none 0 0] 48) := Row.setCells_other (Row.setCells_other (P1.out.alloc _) _ _ _ ncc) _ _ _ nca
      have BC : Hid (Below w.heap.size w (((wr.alloc (Obj.cells (vB (List.replicate 32 0#8)).toArray 29)).setCells kc 0 (vB u)).setCells ab 0 (vB u))) := below_setCells (below_setCells BA.out hkl _) hal _
      have HKC : Hid (kc = wr.heap.size) := hkc
      clear nab ncc nca hkl hal hkc
      go_wp2_with (first
        | (refine wpList_load_w rfl 29 (.tmp 21) rfl kb 0 rfl (vB u) _ (HK.out _ B1.out) Tryd.underlying29 rfl HIU.out ?_; simp only [Act.put, List.setIfInBounds_toArray, List.set_cons_zero, List.set_cons_succ])
        | (refine wpList_store_mid rfl 29 (.tmp 8) (.tmp 22) rfl kc 0 (vB u).toArray (by rw [HKC.out]; rfl) rfl (RK.out.there 0 _ (by simp [vB_length, HUL.out])) HI5.out (all_oneCell_toArray (vB_one u)) ?_; simp only [Act.put])
        | (refine wpList_load_w rfl 29 (.tmp 8) rfl kc 0 (by rw [HKC.out]; rfl) (vB u) _ RKB.out.all Tryd.underlying29 rfl HIU.out ?_; simp only [Act.put, List.setIfInBounds_toArray, List.set_cons_zero, List.set_cons_succ])
        | (refine wpList_store_mid rfl 29 (.tmp 27) (.tmp 25) rfl ab 0 (vB u).toArray rfl rfl (R1B.out.there 0 _ (by simp [vB_length, HUL.out])) HI5.out (all_oneCell_toArray (vB_one u)) ?_; simp only [Act.put]))
      exact ⟨.inr ⟨rfl, R1C, PC, BC⟩, by decide⟩
    · obtain ⟨tb, htb⟩ : ∃ tb, tb = wr.heap.size := ⟨_, rfl⟩
      obtain ⟨WT, hWT⟩ : ∃ WT, WT = wr.alloc (Obj.cells #[.slice none 0 0, .slice none 0 0, .int .i64 0] 90) := ⟨_, rfl⟩
      have bT : Below wr.heap.size wr WT := by rw [hWT]; exact (Below.refl _ _).alloc (Nat.le_refl _) _
      have rT : Row WT tb [.slice none 0 0, .slice none 0 0, .int .i64 0] 90 := by rw [hWT]; exact Row.new' htb rfl
      have BT : Hid (Below w.heap.size w WT) := hB.out.trans (bT.mono hB.out.size)
      have rA : Row WT ab (vB (u ++ List.replicate 32 0#8)) 59 := Row.below hr.out bT hr.out.lt
      have rP : Row WT c0 [.slice none 0 0, .slice none 0 0] 48 := Row.below hp.out bT hp.out.lt
      have HP : Hid (∀ W, KpT WT W → Row W c0 [.slice none 0 0, .slice none 0 0] 48) := fun W k => k _ _ _ (by decide) (by decide) (by decide) rP
      have HTL : Hid (Calls Tryd.prog 48 #[pt tb, q, .slice (some ⟨ab, 0, none⟩) 1 1, .int .i64 0] WT (Told WT tb 511 2)) :=
        spine_told tb l r hm ab 0 1 (Nat.le_refl _) 254 (Nat.le_refl _) q WT 0 (HNQ.out WT BT.out) ⟨.slice none 0 0, .slice none 0 0, [], [], rT, ⟨rfl, .inl ⟨rfl, rfl⟩⟩, ⟨rfl, .inl ⟨rfl, rfl⟩⟩, fun g h => by simp [Value.ownBlock] at h⟩
          (fun W k => by
            have h1 := (k _ _ _ (by decide) (by decide) (by decide) rA).all
            rw [vB_append] at h1
            rw [← HU2.out]
            exact range_left h1)
      have HTB : Hid (tb = wr.heap.size) := htb
      have HWT : Hid (wr.alloc (Obj.cells #[.slice none 0 0, .slice none 0 0, .int .i64 0] 90) = WT) := hWT.symm
      have HLE : Hid (w.heap.size ≤ tb) := by show _ ≤ _; rw [htb]; exact hB.out.size
      clear htb hWT bT rT rA rP hr hp hB
      go_upto_region 12 with (go_at_call 47; refine Calls.mono (rise_one _ _ _) ?_; rintro e X ⟨rfl, hq⟩; obtain rfl := hq.symm; clear hq)
      rw [HWT.out, ← HTB.out]
      go_upto_region 13 with (first
        | (refine wpList_plain rfl fun _ hK => wp_ldp mb 0 q rfl rfl (HM.out _ BT.out) (hK _ _ ?_); simp only [Act.put, List.setIfInBounds_toArray, List.set_cons_zero, List.set_cons_succ])
        | (go_at_call 48; refine Calls.mono HTL.out ?_; rintro e X2 ⟨rfl, q1, q2, q3⟩; have Q1 : Hid (TlAt X2 tb X2.heap.size 511 2) := q1; have Q2 : Hid (KpT WT X2) := q2; have Q3 : Hid (Below w.heap.size w X2) := BT.out.trans (q3.mono HLE.out); clear q1 q2 q3))
      obtain ⟨va, vb, l1, ys, rT, oM, oS, _⟩ := Q1.out
      obtain ⟨g, cp, rfl⟩ := own_s2 oS
      have hva := (own_cl oM).2
      have RG : Hid (X2.rangeAt tb 0 [va, .slice (some ⟨g, 0, none⟩) 2 cp]) := rT.range 0 _ (fun j v hj => by
        rcases j with _ | _ | j
        · simpa using hj
        · simpa using hj
        · simp at hj)
      have rP2 := HP.out X2 Q2.out
      rw [HC0.out] at rP2
      have THP : Hid (X2.there w.heap.size 0 2) := rP2.there 0 2 (Nat.le_refl _)
      have H1C : Hid (∀ v ∈ [va, .slice (some ⟨g, 0, none⟩) 2 cp], v.oneCell' = true) := fun v hv => by rcases List.mem_cons.1 hv with rfl | hv; exact hva; obtain rfl := List.mem_singleton.1 hv; rfl
      have RPF : Hid (Row (X2.setCells w.heap.size 0 [va, .slice (some ⟨g, 0, none⟩) 2 cp]) w.heap.size [va, .slice (some ⟨g, 0, none⟩) 2 cp] 48) := rP2.over rfl
      have BF : Hid (Below w.heap.size w (X2.setCells w.heap.size 0 [va, .slice (some ⟨g, 0, none⟩) 2 cp])) := below_setCells Q3.out (Nat.le_refl _) _
      clear rT oM oS hva rP2 Q1 Q2 Q3
      go_wp2_with (first
        | (refine wpList_load_w rfl 48 (.tmp 39) rfl tb 0 rfl [va, .slice (some ⟨g, 0, none⟩) 2 cp] _ RG.out Tryd.underlying48 rfl info_pr ?_; simp only [Act.put, List.setIfInBounds_toArray, List.set_cons_zero, List.set_cons_succ])
        | (refine wpList_store_mid rfl 48 (.tmp 4) (.tmp 40) rfl w.heap.size 0 #[va, .slice (some ⟨g, 0, none⟩) 2 cp] rfl rfl THP.out info_pr (all_oneCell_toArray H1C.out) ?_; simp only [Act.put]))
      exact bodyPost_ret (results_rowS_tmpS Tryd.results21 _ _ w.heap.size 48 [va, .slice (some ⟨g, 0, none⟩) 2 cp] (.int .i64 0) rfl rfl RPF.out Tryd.underlying48 info_pr) rfl ⟨va, g, cp, rfl, H1C.out va List.mem_cons_self, BF.out⟩

end Go.Proofs.YtfdgdmehgbmnkaaDoor
