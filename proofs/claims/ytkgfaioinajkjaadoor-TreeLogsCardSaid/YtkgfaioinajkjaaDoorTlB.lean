/-
  TreeLogs: the document's Resume, LogRoot, Add.
-/
import Derived.Test.YtkgfaioinajkjaaDoorTlA
namespace Go.Proofs.YtkgfaioinajkjaaDoor
open Go Go.RowKit
open Sha

abbrev tRL : TypeId := 28
def zLg : List Value := [.int .i64 0, .slice none 0 0]
section
variable {ops : Array Oper} {rest : List Oper} {op : Oper} {a : Act} {w : World} {Q : Exit → Act → World → Prop}
theorem wpList_allocRL (hgd : op.guard = none) (ho : op.op = .alloc tRL) (h : ∀ X, Row X w.heap.size zLg tRL → Below w.heap.size w X → wpList Tryd.prog ops Q rest (a.put op.dst (.pointer (some ⟨w.heap.size, 0, none⟩))) X) : wpList Tryd.prog ops Q (op :: rest) a w :=
  wpList_plain hgd fun _ hK => by
    unfold Oper.wp execOp
    simp only [ho]
    go_simp
    exact hK _ _ (h _ (Row.new' (cs := zLg) rfl rfl) ((Below.refl _ _).alloc (Nat.le_refl _) _))
theorem wpList_mkD (hgd : op.guard = none) (x y : Operand) (ho : op.op = .makeSlice 26 x y) (n : Nat) (hx : a.eval x = .int .i64 (n : Int)) (hy : a.eval y = .int .i64 (n : Int)) (hn : n * 32 ≤ 281474976710656)
    (h : ∀ X, Row X w.heap.size (vB (List.replicate (n * 32) 0#8)) 42 → Below w.heap.size w X → wpList Tryd.prog ops Q rest (a.put op.dst (.slice (some ⟨w.heap.size, 0, none⟩) n n)) X) : wpList Tryd.prog ops Q (op :: rest) a w :=
  wpList_make_d hgd x y ho n (n : Int) rfl hx hy hn (h _ (Row.new w _ _) ((Below.refl _ _).alloc (Nat.le_refl _) _))
theorem wpList_cpD (hgd : op.guard = none) (d s : Operand) (ho : op.op = .call { callee := .builtin .copy, args := #[d, s], argTypes := #[26, 26] })
    (g n : Nat) (A : Option Addr) (cap : Nat) (ds : List (List (BitVec 8))) (hn : n = ds.length) (hd : a.eval d = .slice (some ⟨g, 0, none⟩) n n) (hs : a.eval s = .slice A n cap) (hp : PAt w (.slice A n cap) ds) (r : Row w g (vB (List.replicate (n * 32) 0#8)) 42)
    (h : ∀ X, X = w.setCells g 0 (vB ds.flatten) → Row X g (vB ds.flatten) 42 → wpList Tryd.prog ops Q rest (a.put op.dst (.int .i64 (n : Int))) X) : wpList Tryd.prog ops Q (op :: rest) a w := by
  have h32 := hp.1
  subst hn
  refine wpList_copy_d hgd d s ho g ds.length ds.length A cap ds hd hs hp (Nat.le_refl _) (r.there 0 _ (by simp [vB_length])) ?_
  refine h _ rfl ?_
  exact r.over (by rw [vB_length, vB_length, flatten_len ds h32, List.length_replicate])
theorem wpList_bdD (hgd : op.guard = none) (x : Operand) (ho : op.op = .buildSlice 26 1 #[(0, x)]) (r : List (BitVec 8)) (hr : r.length = 32) (hx : a.eval x = .agg (vB r).toArray)
    (h : ∀ X, Row X w.heap.size (vB r) 42 → Below w.heap.size w X → wpList Tryd.prog ops Q rest (a.put op.dst (.slice (some ⟨w.heap.size, 0, none⟩) 1 1)) X) : wpList Tryd.prog ops Q (op :: rest) a w :=
  wpList_plain hgd fun _ hK => wp_build_d x ho r hr hx (hK _ _ (h _ (Row.new' rfl rfl) ((Below.refl _ _).alloc (Nat.le_refl _) _)))
theorem wpList_apD (hgd : op.guard = none) (s x : Operand) (ho : op.op = .call { callee := .builtin .append, args := #[s, x], argTypes := #[26, 26] }) (N n : Nat) (v : Value) (l : List Value) (r : List (BitVec 8)) (hr0 : r.length = 32)
    (hs : a.eval s = v) (hown : Ow w v n l) (hx : a.eval x = .slice (some ⟨N, 0, none⟩) 1 1) (hN : Row w N (vB r) 42) (hk : (n + 1) * 32 ≤ 140737488355328)
    (h : ∀ v' w', Ow w' v' (n + 1) (l ++ vB r) → w.grownBy w' v.ownBlock → (v'.ownBlock = v.ownBlock ∨ v'.ownBlock = some w.heap.size) → wpList Tryd.prog ops Q rest (a.put op.dst v') w') : wpList Tryd.prog ops Q (op :: rest) a w :=
  wpList_plain hgd fun _ hK => wp_appd s x ho N n v l r hr0 hs hown hx hN hk (fun v' w' q1 q2 q3 => hK _ _ (h v' w' q1 q2 q3))
theorem wp_subk {o : Oper} {K : Act → World → Prop} {x : Operand} (t yt : TypeId) (ho : o.op = .binOp .sub t x (.const (.int .i64 1)) yt) (k : Nat) (hk : k ≤ 1000) (hx : a.eval x = .int .i64 ((k + 1 : Nat) : Int)) (h : K (a.put o.dst (.int .i64 (k : Int))) w) : Oper.wp Tryd.prog o a w K Q := by
  have e : ((k + 1 : Nat) : Int) - 1 = (k : Int) := by omega
  unfold Oper.wp execOp
  simp only [ho, hx]
  go_simp
  have e2 : IntKind.i64.wrap (k : Int) = (k : Int) := by rw [IntKind.wrap_i64]; omega
  rw [e2]
  exact h
end
theorem row_owk {w : World} {g L k : Nat} {F : List (List (BitVec 8))} (r : Row w g (vB F.flatten) 42) (hL : F.length = L) (h32 : ∀ d ∈ F, d.length = 32) (hk : k ≤ L) (hb : L ≤ 1000) : Ow w (.slice (some ⟨g, 0, none⟩) k L) k (vB (F.take k).flatten) := by
  have hlen : (F.take k).flatten.length = k * 32 := by
    rw [flatten_len _ (fun d hd => h32 d (List.mem_of_mem_take hd)), List.length_take, hL, Nat.min_eq_left hk]
  refine ⟨by rw [vB_length, hlen], .inr ⟨g, L, (vB F.flatten).toArray, rfl, Nat.zero_le _, r, hk, by unfold maxLen; omega, by simp [vB_length, flatten_len F h32, hL], ?_⟩⟩
  show (vB F.flatten).take (k * 32) = _
  have e : F.flatten = (F.take k).flatten ++ (F.drop k).flatten := by rw [← List.flatten_append, List.take_append_drop]
  rw [e, vB, List.map_append, List.take_append_of_le_length (by rw [List.length_map, hlen]; exact Nat.le_refl _), List.take_of_length_le (by rw [List.length_map, hlen]; exact Nat.le_refl _)]
  rfl
theorem results_rl {P : Program} {fn : Func} {p q : Tmp} {ty : TypeId} {fs : Array Field} (h : fn.results = #[.cell p ty, .tmp q]) (tmps : Array Value) (w : World) (g : Nat) (t : TypeId) (cs : List Value) (v : Value)
    (hp : tmps.getD p undef = .pointer (some ⟨g, 0, none⟩)) (hv : tmps.getD q undef = v) (hg : Row w g cs t) (hu : P.underlying ty = some (.struct fs)) (hi : (P.info? ty).map (·.size) = some cs.length) :
    (results fn tmps).run P w = .ok (.tuple #[.agg cs.toArray, v]) w := by
  have hp' : tmps[p]?.getD undef = .pointer (some ⟨g, 0, none⟩) := by simpa using hp
  have hv' : tmps[q]?.getD undef = v := by simpa using hv
  have hr := run_loadVar_row (P := P) w g t ty cs.toArray (0, 0) (.struct fs) hg hu rfl (by simp [hi])
  simp [results, h, hp', hv', asAddr, hr]
theorem info_rl : (Tryd.prog.info? tRL).map (·.size) = some 2 := by kernel_rfl
theorem one_rl (m : Int) (A : Option Addr) (n c : Nat) : ([.int .i64 m, .slice A n c] : List Value).toArray.all (·.oneCell') = true := by rw [← Array.all_toList]; rfl
set_option maxRecDepth 100000 in
set_option maxHeartbeats 2000000 in
theorem rresume_size (z : Int) (hz : z < 0 ∨ 1099511627776 < z) (A : Option Addr) (n cap : Nat) (w : World) :
    Calls Tryd.prog 20 #[.int .i64 z, .slice A n cap] w fun e w' => e = .returned (.tuple #[.agg zLg.toArray, .int .i64 40]) ∧ Below w.heap.size w w' := by
  have core : ∀ (B : Bool), B = decide (z < 0) → (B = false → 1099511627776 < z) → Calls Tryd.prog 20 #[.int .i64 z, .slice A n cap] w fun e w' => e = .returned (.tuple #[.agg zLg.toArray, .int .i64 40]) ∧ Below w.heap.size w w' := by
    intro B hB hB2
    cases B with
    | true =>
      have h0 : z < 0 := of_decide_eq_true hB.symm
      clear hz hB hB2
      go_enter Tryd.func20, Tryd.ntmps20
      go_wp2_with (refine wpList_allocRL rfl rfl ?_; intro X1 q1 q2; have R1 : Hid (Row X1 w.heap.size zLg tRL) := q1; have B1 : Hid (Below w.heap.size w X1) := q2; have c0 := q1.cell 0 _ rfl; have c1 := q1.cell 1 _ rfl; have f0 := q1.thaw 0; have f1 := q1.thaw 1; clear q1 q2; simp only [Act.put, List.setIfInBounds_toArray, List.set_cons_zero, List.set_cons_succ])
      have hR : Row ((X1.setCell ⟨w.heap.size, 0, none⟩ (.int .i64 0)).setCell ⟨w.heap.size, 1, none⟩ (.slice none 0 0)) w.heap.size zLg tRL := (R1.out.set 0 _).set 1 _
      exact bodyPost_ret (results_rl Tryd.results20 _ _ w.heap.size tRL zLg (.int .i64 40) rfl rfl hR Tryd.underlying28 info_rl) rfl ⟨rfl, (B1.out.setCell (p := ⟨w.heap.size, 0, none⟩) (Nat.le_refl _) _).setCell (p := ⟨w.heap.size, 1, none⟩) (Nat.le_refl _) _⟩
    | false =>
      have h0 : ¬ z < 0 := of_decide_eq_false hB.symm
      have h1 := hB2 rfl
      clear hz hB hB2
      go_enter Tryd.func20, Tryd.ntmps20
      go_wp2_with (refine wpList_allocRL rfl rfl ?_; intro X1 q1 q2; have R1 : Hid (Row X1 w.heap.size zLg tRL) := q1; have B1 : Hid (Below w.heap.size w X1) := q2; have c0 := q1.cell 0 _ rfl; have c1 := q1.cell 1 _ rfl; have f0 := q1.thaw 0; have f1 := q1.thaw 1; clear q1 q2; simp only [Act.put, List.setIfInBounds_toArray, List.set_cons_zero, List.set_cons_succ])
      have hR : Row ((X1.setCell ⟨w.heap.size, 0, none⟩ (.int .i64 0)).setCell ⟨w.heap.size, 1, none⟩ (.slice none 0 0)) w.heap.size zLg tRL := (R1.out.set 0 _).set 1 _
      exact bodyPost_ret (results_rl Tryd.results20 _ _ w.heap.size tRL zLg (.int .i64 40) rfl rfl hR Tryd.underlying28 info_rl) rfl ⟨rfl, (B1.out.setCell (p := ⟨w.heap.size, 0, none⟩) (Nat.le_refl _) _).setCell (p := ⟨w.heap.size, 1, none⟩) (Nat.le_refl _) _⟩
  exact core _ rfl (fun h => hz.resolve_left (of_decide_eq_false h))
set_option maxRecDepth 100000 in
set_option maxHeartbeats 2000000 in
theorem rresume_front (m : Nat) (hm : m ≤ 1099511627776) (A : Option Addr) (n cap : Nat) (hn : n ≠ pc m) (w : World) :
    Calls Tryd.prog 20 #[.int .i64 (m : Int), .slice A n cap] w fun e w' => e = .returned (.tuple #[.agg zLg.toArray, .int .i64 42]) ∧ Below w.heap.size w w' := by
  have HO : Hid (∀ X, Calls Tryd.prog 34 #[.int .i64 (m : Int)] X fun e w' => e = .returned (.int .i64 ((pc m : Nat) : Int)) ∧ w' = X) := fun X => rones_any m (by omega) X
  have hne : ¬ ((n : Int) = ((pc m : Nat) : Int)) := by omega
  generalize pc m = k at *
  have c1 : ¬ (m : Int) < 0 := by omega
  have c2 : ¬ (1099511627776 : Int) < (m : Int) := by omega
  clear hm hn
  go_enter Tryd.func20, Tryd.ntmps20
  go_wp2_with (first
    | (refine wpList_allocRL rfl rfl ?_; intro X1 q1 q2; have R1 : Hid (Row X1 w.heap.size zLg tRL) := q1; have B1 : Hid (Below w.heap.size w X1) := q2; have c0 := q1.cell 0 _ rfl; have c1 := q1.cell 1 _ rfl; have f0 := q1.thaw 0; have f1 := q1.thaw 1; clear q1 q2; simp only [Act.put, List.setIfInBounds_toArray, List.set_cons_zero, List.set_cons_succ])
    | (go_at_call 34; refine Calls.mono (HO.out X1) ?_; rintro e X ⟨rfl, hqq⟩; obtain rfl := hqq.symm))
  have hR : Row ((X1.setCell ⟨w.heap.size, 0, none⟩ (.int .i64 0)).setCell ⟨w.heap.size, 1, none⟩ (.slice none 0 0)) w.heap.size zLg tRL := (R1.out.set 0 _).set 1 _
  exact bodyPost_ret (results_rl Tryd.results20 _ _ w.heap.size tRL zLg (.int .i64 42) rfl rfl hR Tryd.underlying28 info_rl) rfl ⟨rfl, (B1.out.setCell (p := ⟨w.heap.size, 0, none⟩) (Nat.le_refl _) _).setCell (p := ⟨w.heap.size, 1, none⟩) (Nat.le_refl _) _⟩
set_option maxRecDepth 100000 in
set_option maxHeartbeats 2000000 in
theorem rresume_ok (m : Nat) (hm : m ≤ 1099511627776) (A : Option Addr) (n cap : Nat) (F : List (List (BitVec 8))) (hn : n = F.length) (hF : n = pc m) (w : World) (hp : PAt w (.slice A n cap) F) :
    Calls Tryd.prog 20 #[.int .i64 (m : Int), .slice A n cap] w fun e w' => ∃ A' c', e = .returned (.tuple #[.agg #[.int .i64 (m : Int), .slice A' n c'], .int .i64 0]) ∧ Ow w' (.slice A' n c') n (vB F.flatten) ∧ Fresh w.heap.size (.slice A' n c') ∧ Below w.heap.size w w' := by
  have h41 := pc_le41 m hm
  have HO : Hid (∀ X, Calls Tryd.prog 34 #[.int .i64 (m : Int)] X fun e w' => e = .returned (.int .i64 (n : Int)) ∧ w' = X) := fun X => by rw [hF]; exact rones_any m (by omega) X
  have HP : Hid (∀ X, Below w.heap.size w X → PAt X (.slice A n cap) F) := fun X hX => hp.below hX
  have HN : Hid (n = F.length) := hn
  have H32 : Hid (∀ d ∈ F, d.length = 32) := hp.1
  have hnb : n ≤ 41 := by omega
  have HK : Hid (n * 32 ≤ 281474976710656) := by show _ ≤ _; omega
  have c1 : ¬ (m : Int) < 0 := by omega
  have c2 : ¬ (1099511627776 : Int) < (m : Int) := by omega
  clear hm hn hF hp h41
  go_enter Tryd.func20, Tryd.ntmps20
  go_wp2_with (first
    | (refine wpList_allocRL rfl rfl ?_; intro X1 q1 q2; have R1 : Hid (Row X1 w.heap.size zLg tRL) := q1; have B1 : Hid (Below w.heap.size w X1) := q2; clear q1 q2; simp only [Act.put, List.setIfInBounds_toArray, List.set_cons_zero, List.set_cons_succ])
    | (go_at_call 34; refine Calls.mono (HO.out X1) ?_; rintro e X ⟨rfl, hqq⟩; obtain rfl := hqq.symm)
    | (refine wpList_mkD rfl (.tmp 21) (.tmp 21) rfl n rfl rfl HK.out ?_; intro X2 q1 q2; have M2 : Hid (Row X2 X1.heap.size (vB (List.replicate (n * 32) 0#8)) 42) := q1; have B2 : Hid (Below w.heap.size w X2) := B1.out.trans (q2.mono B1.out.size); have R2 : Hid (Row X2 w.heap.size zLg tRL) := Row.below R1.out q2 R1.out.lt; clear q1 q2; simp only [Act.put, List.setIfInBounds_toArray, List.set_cons_zero, List.set_cons_succ])
    | (refine wpList_cpD rfl (.tmp 23) (.tmp 24) rfl X1.heap.size n A cap F HN.out rfl rfl (HP.out X2 B2.out) M2.out ?_; intro X3 q1 q2; have M3 : Hid (Row X3 X1.heap.size (vB F.flatten) 42) := q2; have B3 : Hid (Below w.heap.size w X3) := (by rw [q1]; exact below_setCells B2.out B1.out.size _); have R3 : Hid (Row X3 w.heap.size zLg tRL) := (by rw [q1]; exact Row.setCells_other R2.out _ _ _ (by have := R1.out.lt; omega)); clear q1 q2; simp only [Act.put, List.setIfInBounds_toArray, List.set_cons_zero, List.set_cons_succ])
    | (refine wpList_storeL rfl tRL (.tmp 4) (.tmp 28) rfl w.heap.size [.int .i64 (m : Int), .slice (some ⟨X1.heap.size, 0, none⟩) n n] zLg tRL rfl rfl R3.out rfl info_rl (one_rl _ _ _ _) ?_; intro X4 q1 q2; have E4 : Hid (X4 = _) := q1; have R4 : Hid (Row X4 w.heap.size [.int .i64 (m : Int), .slice (some ⟨X1.heap.size, 0, none⟩) n n] tRL) := q2; clear q1 q2; simp only [Act.put]))
  have hB4 : Below w.heap.size w X4 := by rw [E4.out]; exact below_setCells B3.out (Nat.le_refl _) _
  have hM4 : Row X4 X1.heap.size (vB F.flatten) 42 := by rw [E4.out]; exact Row.setCells_other M3.out _ _ _ (by have := R1.out.lt; omega)
  have hO := row_owk hM4 HN.out.symm H32.out (Nat.le_refl n) (by omega)
  rw [List.take_of_length_le (by rw [← HN.out]; exact Nat.le_refl _)] at hO
  exact bodyPost_ret (results_rl Tryd.results20 _ _ w.heap.size tRL _ (.int .i64 0) rfl rfl R4.out Tryd.underlying28 info_rl) rfl ⟨some ⟨X1.heap.size, 0, none⟩, n, rfl, hO, (fun g e => by simp only [Value.ownBlock, Option.some.injEq] at e; rw [← e]; exact B1.out.size), hB4⟩
set_option maxRecDepth 100000 in
set_option maxHeartbeats 2000000 in
theorem rlroot_nil (m : Int) (A : Option Addr) (c : Nat) (LG : List Value) (hLG : LG = [.int .i64 m, .slice A 0 c]) (dr : List (BitVec 8)) (hdr : dr = dig []) (w : World) (fG : Given w) :
    Calls Tryd.prog 13 #[.agg LG.toArray] w fun e w' => e = .returned (.agg (vB dr).toArray) ∧ Below w.heap.size w w' := by
  have h32 : dr.length = 32 := by rw [hdr]; exact dig_length _
  have HS : Hid (∀ X, Below w.heap.size w X → Calls Tryd.prog 30 #[.slice none 0 0] X fun e w' => e = .returned (.agg (vB dr).toArray) ∧ Below X.heap.size X w') := fun X hX => rsum_any [] dr hdr (by decide) (.slice none 0 0) X (.inl ⟨rfl, none, 0, rfl⟩) (fG.low hX)
  have HI : Hid ((Tryd.prog.info? 42).map (·.size) = some (vB dr).length) := dl_info h32
  have HLL : Hid ((vB dr).length = (vB (List.replicate 32 0#8)).length) := by show _ = _; rw [vB_length, vB_length, h32]; rfl
  have H32 : Hid (dr.length = 32) := h32
  have HLG1 : Hid (LG[1]? = some (.slice A 0 c)) := by show _ = _; rw [hLG]; rfl
  clear hdr fG h32 hLG
  go_enter Tryd.func13, Tryd.ntmps13
  go_wp2_with (first
    | (refine wpList_boxG tRL rfl (.tmp 0) rfl LG rfl ?_; intro X0 q1 q2 q3; have Q0 : Hid (Row X0 w.heap.size LG tRL) := q1; have B0 : Hid (Below w.heap.size w X0) := q2; clear q1 q2 q3; simp only [Act.put, List.setIfInBounds_toArray, List.set_cons_zero, List.set_cons_succ])
    | (refine wpList_allocD rfl rfl ?_; intro X1 q1 q2 q3; have R1 : Hid (Row X1 X0.heap.size (vB (List.replicate 32 0#8)) 42) := q1; have B1 : Hid (Below w.heap.size w X1) := B0.out.trans (q2.mono B0.out.size); have c1 := (Row.below Q0.out q2 Q0.out.lt).cell 1 _ HLG1.out; clear q1 q2 q3; simp only [Act.put, List.setIfInBounds_toArray, List.set_cons_zero, List.set_cons_succ])
    | (go_at_call 30; refine Calls.mono (HS.out X1 B1.out) ?_; rintro e X2 ⟨rfl, p⟩; have R2 : Hid (Row X2 X0.heap.size (vB (List.replicate 32 0#8)) 42) := Row.below R1.out p R1.out.lt; have B2 : Hid (Below w.heap.size w X2) := B1.out.trans (p.mono B1.out.size); clear p)
    | (refine wpList_storeL rfl 42 (.tmp 2) (.tmp 9) rfl X0.heap.size (vB dr) (vB (List.replicate 32 0#8)) 42 rfl rfl R2.out HLL.out HI.out (all_oneCell_toArray (vB_one dr)) ?_; intro X3 q1 q2; have E3 : Hid (X3 = _) := q1; have R3 : Hid (Row X3 X0.heap.size (vB dr) 42) := q2; clear q1 q2; simp only [Act.put]))
  have hE : Below w.heap.size w X3 := by rw [E3.out]; exact below_setCells B2.out B0.out.size _
  exact bodyPost_ret (results_row Tryd.results13 _ _ X0.heap.size 42 (vB dr) rfl R3.out Tryd.underlying42 info_dig (by rw [vB_length, H32.out])) rfl ⟨rfl, hE⟩

end Go.Proofs.YtkgfaioinajkjaaDoor
