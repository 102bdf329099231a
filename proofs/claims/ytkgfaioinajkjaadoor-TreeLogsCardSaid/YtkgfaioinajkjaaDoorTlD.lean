/-
  TreeLogs: laws for its walk; what the callees do at three logs side by side.
-/
import Derived.Test.YtkgfaioinajkjaaDoorTFp
import Derived.Test.YtkgfaioinajkjaaDoorTlC

namespace Go.Proofs.YtkgfaioinajkjaaDoor
open Go Go.RowKit

theorem wp_region_then {P : Program} {id : Nat} {ops : Array Oper} {Q : Exit → Act → World → Prop} {a : Act} {w : World} (hm : P.follows .mixedOrders = true) (j : Nat) (hjn : j < ops.size)
    (hb : ((List.range ops.size).all fun i => ((ops[i]?).map fun o => o.after.all fun e => !Region.binds .any e || decide (e.on < i)).getD true) = true)
    (I J : Array Bool → Act → World → Prop)
    (h0 : I (Array.replicate ops.size false) a w.drew)
    (hI : ∀ listed a w i, listed.size = ops.size → I listed a w → Down ops listed → i ∈ Region.ready .any ops listed → i ≠ j → ¬ listed.getD j false = true → wpOp P ops Q i (I (listed.setIfInBounds i true)) a w)
    (hj : ∀ listed a w, listed.size = ops.size → I listed a w → Down ops listed → j ∈ Region.ready .any ops listed → wpOp P ops Q j (J (listed.setIfInBounds j true)) a w)
    (hJ : ∀ listed a w i, listed.size = ops.size → J listed a w → Down ops listed → i ∈ Region.ready .any ops listed → i ≠ j → listed.getD j false = true → wpOp P ops Q i (J (listed.setIfInBounds i true)) a w)
    (hdone : ∀ listed a w, listed.size = ops.size → J listed a w → Region.ready .any ops listed = [] → Q .normal a w) : (Code.region id ops true).wp P Q a w := by
  refine wp_region_down hm (fun l a w => l.size = ops.size ∧ ((¬ l.getD j false = true ∧ I l a w) ∨ (l.getD j false = true ∧ J l a w))) ⟨by simp, .inl ⟨fun h => start_no h, h0⟩⟩ ?_ ?_
  · intro l a w i h hd hi
    obtain ⟨hs, h | h⟩ := h
    · by_cases e : i = j
      · subst e
        exact wpOp_mono (fun _ _ h' => ⟨by rw [Array.size_setIfInBounds]; exact hs, .inr ⟨getD_same (by rw [hs]; exact hjn), h'⟩⟩) (hj l a w hs h.2 hd hi)
      · exact wpOp_mono (fun _ _ h' => ⟨by rw [Array.size_setIfInBounds]; exact hs, .inl ⟨by rw [getD_set _ _ _ e]; exact h.1, h'⟩⟩) (hI l a w i hs h.2 hd hi e h.1)
    · by_cases e : i = j
      · subst e
        exact absurd h.1 (not_yet hi)
      · exact wpOp_mono (fun _ _ h' => ⟨by rw [Array.size_setIfInBounds]; exact hs, .inr ⟨by rw [getD_set _ _ _ e]; exact h.1, h'⟩⟩) (hJ l a w i hs h.2 hd hi e h.1)
  · intro l a w h hr
    obtain ⟨hs, h | h⟩ := h
    · exact absurd (all_listed hb hs hr j hjn) h.1
    · exact hdone l a w hs h.2 hr

end Go.Proofs.YtkgfaioinajkjaaDoor

namespace Go.Proofs.YtkgfaioinajkjaaDoor
open Go Go.RowKit
open Sha

/-- Which one. -/
def pk (c n : Int) : Int := (if c < 0 then -(c + 1) else c) % n
theorem pk_range (c n : Int) (hn : 0 < n) : 0 ≤ pk c n ∧ pk c n < n := ⟨Int.emod_nonneg _ (by omega), Int.emod_lt_of_pos _ hn⟩
set_option maxRecDepth 100000 in
theorem pick_any (c n : Int) (hn : 0 < n) (h1 : -9223372036854775808 ≤ c) (h2 : c ≤ 9223372036854775807) (hn2 : n ≤ 9223372036854775807) (w : World) :
    Calls Tryd.prog 6 #[.int .i64 c, .int .i64 n] w fun e w' => e = .returned (.int .i64 (pk c n)) ∧ w' = w := by
  have hn0 : ¬ n = 0 := by omega
  have hn1 : ¬ n = -1 := by omega
  have hr := pk_range c n hn
  by_cases hc : c < 0
  · have e1 : Hid (pk c n = (-(c + 1)) % n) := by show _ = _; unfold pk; rw [if_pos hc]
    have e3 : (-(c + 1)).tmod n = pk c n := by rw [e1.out]; exact Int.tmod_eq_emod_of_nonneg (by omega)
    have e4 : (-1 + -c).tmod n = pk c n := by rw [show -1 + -c = -(c + 1) by omega]; exact e3
    have e5 : (-c + -1).tmod n = pk c n := by rw [show -c + -1 = -(c + 1) by omega]; exact e3
    generalize pk c n = r at *
    go_enter Tryd.func6, Tryd.ntmps6
    go_wp2
    go_ret
    exact ⟨by first | rfl | (simp; omega), rfl⟩
  · have e1 : Hid (pk c n = c % n) := by show _ = _; unfold pk; rw [if_neg hc]
    have e3 : c.tmod n = pk c n := by rw [e1.out]; exact Int.tmod_eq_emod_of_nonneg (by omega)
    generalize pk c n = r at *
    go_enter Tryd.func6, Tryd.ntmps6
    go_wp2
    go_ret
    exact ⟨by first | rfl | (simp; omega), rfl⟩
theorem pick3 (c : Int) (h1 : -9223372036854775808 ≤ c) (h2 : c ≤ 9223372036854775807) : ∃ k : Nat, k < 3 ∧ ∀ w, Calls Tryd.prog 6 #[.int .i64 c, .int .i64 3] w fun e w' => e = .returned (.int .i64 (k : Int)) ∧ w' = w := by
  have q := pk_range c 3 (by omega)
  refine ⟨(pk c 3).toNat, by omega, fun w => ?_⟩
  rw [show (((pk c 3).toNat : Nat) : Int) = pk c 3 by omega]
  exact pick_any c 3 (by omega) h1 h2 (by omega) w
section
variable {P : Program} {Q : Exit → Act → World → Prop} {o : Oper} {a : Act} {w : World} {K : Act → World → Prop} {ops : Array Oper} {rest : List Oper}
/-- A place of an array. -/
theorem wp_ixA (T e : TypeId) {x y : Operand} (ho : o.op = .indexAddr T x y) (b n t s f : Nat) (hx : a.eval x = .pointer (some ⟨b, 0, none⟩)) (hy : a.eval y = .int .i64 (t : Int)) (ht : t < n)
    (hu : P.underlying T = some (.array n e)) (hs : (P.info? e).map (·.size) = some s) (hf : t * s = f) (h : K (a.put o.dst (.pointer (some ⟨b, f, none⟩))) w) : Oper.wp P o a w K Q := by
  refine wp_pure (v := .pointer (some ⟨b, f, none⟩)) ?_ h
  have hr : (Instr.indexAt T (.pointer (some ⟨b, 0, none⟩)) (.int .i64 (t : Int))).run P w = .ok (.pointer (some ⟨b, f, none⟩)) w := by
    cases hi : P.info? e with
    | none => rw [hi] at hs; cases hs
    | some ie =>
      rw [hi] at hs
      have h4 : ie.size = s := by simpa using hs
      simp [Instr.indexAt, run_underlying hu, asIntOf, ht, sizeOf, typeInfo, hi, h4, Instr.sureAddr, Addr.add_mid, hf]
  unfold execOp
  simp only [ho, hx, hy, Sem.run_bind, hr, Result.andThen_ok]
  rfl
theorem wpList_ixA (hw : Region.wanted o (yielded ops a.tmps) = true) (T e : TypeId) (x y : Operand) (ho : o.op = .indexAddr T x y) (b n t s f : Nat) (hx : a.eval x = .pointer (some ⟨b, 0, none⟩)) (hy : a.eval y = .int .i64 (t : Int)) (ht : t < n)
    (hu : P.underlying T = some (.array n e)) (hs : (P.info? e).map (·.size) = some s) (hf : t * s = f) (h : wpList P ops Q rest (a.put o.dst (.pointer (some ⟨b, f, none⟩))) w) : wpList P ops Q (o :: rest) a w :=
  BigFrame.wpList_want hw fun _ hK => wp_ixA T e ho b n t s f hx hy ht hu hs hf (hK _ _ h)
theorem wpList_storeM2 (hgd : o.guard = none) (ty : TypeId) (x y : Operand) (ho : o.op = .store ty x y) (b f : Nat) (vs cs : List Value) (t : TypeId) (hx : a.eval x = .pointer (some ⟨b, f, none⟩)) (hy : a.eval y = .agg vs.toArray) (r : Row w b cs t) (hl : f + vs.length ≤ cs.length) (hi : (Tryd.prog.info? ty).map (·.size) = some vs.length) (h1 : vs.toArray.all (·.oneCell') = true)
    (h : ∀ X, X = w.setCells b f vs → wpList Tryd.prog ops Q rest (a.put o.dst undef) X) : wpList Tryd.prog ops Q (o :: rest) a w :=
  wpList_store_mid hgd ty x y ho b f vs.toArray hx hy (r.there f _ (by rw [List.size_toArray]; exact hl)) (by rw [hi, List.size_toArray]) h1 (h _ rfl)
theorem wpList_setP (hgd : o.guard = none) (x y : Operand) (ho : o.op = .store 24 x y) (b i : Nat) (p : Option Addr) (cs : List Value) (t : TypeId) (hx : a.eval x = .pointer (some ⟨b, i, none⟩)) (hy : a.eval y = .pointer p) (r : Row w b cs t) (hl : i < cs.length)
    (h : ∀ X, X = w.setCell ⟨b, i, none⟩ (.pointer p) → wpList Tryd.prog ops Q rest (a.put o.dst undef) X) : wpList Tryd.prog ops Q (o :: rest) a w :=
  wpList_store1 hgd 24 x y ho b i (.pointer p) hx hy rfl (r.there i 1 (by omega)) (by kernel_rfl) rfl (h _ rfl)
theorem wpList_neqD (hw : Region.wanted o (yielded ops a.tmps) = true) (x y : Operand) (yt : TypeId) (ho : o.op = .binOp .neq 42 x y yt) (d : List (BitVec 8)) (hd : d.length = 32) (hx : a.eval x = .agg (vB d).toArray) (hy : a.eval y = .agg (vB d).toArray)
    (h : wpList Tryd.prog ops Q rest (a.put o.dst (.bool false)) w) : wpList Tryd.prog ops Q (o :: rest) a w :=
  BigFrame.wpList_want hw fun _ hK => wp_neq_d 42 x y yt ho 5 32 d d hx hy Tryd.underlying42 Tryd.underlying5 (by kernel_rfl) hd hd (by kernel_rfl) false (by simp) (hK _ _ h)
theorem wpList_allocA3 (hgd : o.guard = none) (ho : o.op = .alloc tA3) (h : ∀ X, Row X w.heap.size [.pointer none, .pointer none, .pointer none] tA3 → Below w.heap.size w X → wpList Tryd.prog ops Q rest (a.put o.dst (.pointer (some ⟨w.heap.size, 0, none⟩))) X) : wpList Tryd.prog ops Q (o :: rest) a w :=
  wpList_plain hgd fun _ hK => by
    unfold Oper.wp execOp
    simp only [ho]
    go_simp
    exact hK _ _ (h _ (Row.new' (cs := [.pointer none, .pointer none, .pointer none]) rfl rfl) ((Below.refl _ _).alloc (Nat.le_refl _) _))
theorem wpList_allocD3 (hgd : o.guard = none) (ho : o.op = .alloc tD3) (h : ∀ X, Row X w.heap.size (dcs (fun _ => 0) (fun _ => .slice none 0 0)) tD3 → Below w.heap.size w X → wpList Tryd.prog ops Q rest (a.put o.dst (.pointer (some ⟨w.heap.size, 0, none⟩))) X) : wpList Tryd.prog ops Q (o :: rest) a w :=
  wpList_plain hgd fun _ hK => by
    unfold Oper.wp execOp
    simp only [ho]
    go_simp
    exact hK _ _ (h _ (Row.new' (cs := dcs (fun _ => 0) (fun _ => .slice none 0 0)) rfl rfl) ((Below.refl _ _).alloc (Nat.le_refl _) _))
end
theorem info_pl : (Tryd.prog.info? 24).map (·.size) = some 1 := by kernel_rfl
theorem und_A3 : Tryd.prog.underlying tA3 = some (.array 3 24) := by kernel_rfl
theorem und_D3 : Tryd.prog.underlying tD3 = some (.array 3 tRL) := by kernel_rfl
theorem pc_next (m : Nat) : pc (m + 1) + t1 m = pc m + 1 := by
  induction m using Nat.strongRecOn with
  | _ m ih =>
    by_cases h : m % 2 = 1
    · rw [t1_odd m h, pc_half (m + 1), pc_half m, show (m + 1) / 2 = m / 2 + 1 by omega]
      have := ih (m / 2) (by omega)
      omega
    · rw [t1_even m (by omega), pc_half (m + 1), pc_half m, show (m + 1) / 2 = m / 2 by omega]
      omega
theorem addF_len (t : Nat) : ∀ (F : List (List (BitVec 8))) (p : List (BitVec 8)), t ≤ F.length → (addF t F p).length + t = F.length + 1 := by
  induction t with
  | zero => intro F p _; simp [addF]
  | succ t ih =>
    intro F p h
    rw [addF]
    have := ih F.dropLast (nd (F.getLastD []) p) (by rw [List.length_dropLast]; omega)
    rw [List.length_dropLast] at this
    omega
theorem addF_32 (t : Nat) : ∀ (F : List (List (BitVec 8))) (p : List (BitVec 8)), (∀ d ∈ F, d.length = 32) → p.length = 32 → ∀ d ∈ addF t F p, d.length = 32 := by
  induction t with
  | zero =>
    intro F p h hp d hd
    rw [addF] at hd
    rcases List.mem_append.1 hd with q | q
    · exact h d q
    · rw [List.mem_singleton.1 q]; exact hp
  | succ t ih =>
    intro F p h hp
    rw [addF]
    exact ih _ _ (fun d hd => h d (List.dropLast_subset _ hd)) (nd_len _ _)
set_option maxRecDepth 100000 in
set_option maxHeartbeats 2000000 in
theorem lroot_nil (P : Nat) (m : Int) (A : Option Addr) (c : Nat) (dr : List (BitVec 8)) (hdr : dr = dig []) (w : World) (hK : Tab w 4) (h : Row w P [.int .i64 m, .slice A 0 c] tL) :
    Calls Tryd.prog 12 #[.pointer (some ⟨P, 0, none⟩)] w fun e w' => e = .returned (.agg (vB dr).toArray) ∧ Below w.heap.size w w' := by
  have h32 : dr.length = 32 := by rw [hdr]; exact dig_length _
  have HRT : Hid (∀ X, Below w.heap.size w X → Calls Tryd.prog 23 #[.slice none 0 0] X fun e w' => e = .returned (.agg (vB dr).toArray) ∧ Below X.heap.size X w') := fun X hX => root_nil none 0 dr hdr X (hK.below hX hK.lt)
  have HRW : Hid (∀ X, Below w.heap.size w X → X.cell? ⟨P, 1, none⟩ = some (.slice A 0 c)) := fun X hX => (Row.below h hX h.lt).cell 1 _ rfl
  have HI : Hid ((Tryd.prog.info? 42).map (·.size) = some (vB dr).length) := dl_info h32
  have HLL : Hid ((vB dr).length = (vB (List.replicate 32 0#8)).length) := by show _ = _; rw [vB_length, vB_length, h32]; rfl
  have H32 : Hid (dr.length = 32) := h32
  clear hdr hK h h32
  go_enter Tryd.func12, Tryd.ntmps12
  go_wp2_with (first
    | (refine wpList_allocD rfl rfl ?_; intro X0 q1 q2 q3; have R0 : Hid (Row X0 w.heap.size (vB (List.replicate 32 0#8)) 42) := q1; have B0 : Hid (Below w.heap.size w X0) := q2; have c0 := HRW.out X0 q2; clear q1 q2 q3; simp only [Act.put, List.setIfInBounds_toArray, List.set_cons_zero, List.set_cons_succ])
    | (go_at_call 23; refine Calls.mono (HRT.out X0 B0.out) ?_; rintro e X1 ⟨rfl, q⟩; have R1 : Hid (Row X1 w.heap.size (vB (List.replicate 32 0#8)) 42) := Row.below R0.out q R0.out.lt; have B1 : Hid (Below w.heap.size w X1) := B0.out.trans (q.mono B0.out.size); clear q)
    | (refine wpList_storeL rfl 42 (.tmp 2) (.tmp 17) rfl w.heap.size (vB dr) (vB (List.replicate 32 0#8)) 42 rfl rfl R1.out HLL.out HI.out (all_oneCell_toArray (vB_one dr)) ?_; intro X9 q1 q2; have E9 : Hid (X9 = _) := q1; have R9 : Hid (Row X9 w.heap.size (vB dr) 42) := q2; clear q1 q2; simp only [Act.put]))
  have hE : Below w.heap.size w X9 := by rw [E9.out]; exact below_setCells B1.out (Nat.le_refl _) _
  exact bodyPost_ret (results_row Tryd.results12 _ _ w.heap.size 42 (vB dr) rfl R9.out Tryd.underlying42 info_dig (by rw [vB_length, H32.out])) rfl ⟨rfl, hE⟩
set_option maxRecDepth 100000 in
set_option maxHeartbeats 2000000 in
theorem radd_end (m : Nat) (hm : 1099511627776 ≤ m) (A : Option Addr) (n c : Nat) (LG : List Value) (hLG : LG = [.int .i64 (m : Int), .slice A n c]) (lv : Value) (w : World) :
    Calls Tryd.prog 10 #[.agg LG.toArray, lv] w fun e w' => e = .returned (.tuple #[.agg LG.toArray, .int .i64 (-1)]) ∧ Below w.heap.size w w' := by
  have c1 : (1099511627776 : Int) ≤ (m : Int) := by omega
  have HL0 : Hid (LG[0]? = some (.int .i64 (m : Int))) := by show _ = _; rw [hLG]; rfl
  have HLL : Hid (LG.length = zLg.length) := by show _ = _; rw [hLG]; rfl
  have HIN : Hid ((Tryd.prog.info? tRL).map (·.size) = some LG.length) := by show _ = _; rw [hLG]; exact info_rl
  have HON : Hid (LG.toArray.all (·.oneCell') = true) := by show _ = _; rw [hLG]; exact one_rl _ _ _ _
  clear hm hLG
  go_enter Tryd.func10, Tryd.ntmps10
  go_upto_region 1 with (first
    | (refine wpList_boxG tRL rfl (.tmp 0) rfl LG rfl ?_; intro X0 q1 q2 q3; have Q0 : Hid (Row X0 w.heap.size LG tRL) := q1; have B0 : Hid (Below w.heap.size w X0) := q2; clear q1 q2 q3; simp only [Act.put, List.setIfInBounds_toArray, List.set_cons_zero, List.set_cons_succ])
    | (refine wpList_allocRL rfl rfl ?_; intro X1 q1 q2; have R4a : Hid (Row X1 X0.heap.size zLg tRL) := q1; have B1 : Hid (Below w.heap.size w X1) := B0.out.trans (q2.mono B0.out.size); have R2a : Hid (Row X1 w.heap.size LG tRL) := Row.below Q0.out q2 Q0.out.lt; clear q1 q2; simp only [Act.put, List.setIfInBounds_toArray, List.set_cons_zero, List.set_cons_succ]))
  have g0 := R2a.out.cell 0 _ HL0.out
  go_wp2_with (first
    | (refine wpList_load_w rfl tRL (.tmp 2) rfl w.heap.size 0 rfl LG _ R2a.out.all Tryd.underlying28 rfl HIN.out ?_; simp only [Act.put, List.setIfInBounds_toArray, List.set_cons_zero, List.set_cons_succ])
    | (refine wpList_storeL rfl tRL (.tmp 4) (.tmp 12) rfl X0.heap.size LG zLg tRL rfl rfl R4a.out HLL.out HIN.out HON.out ?_; intro X4 q1 q2; have E4 : Hid (X4 = _) := q1; have R4 : Hid (Row X4 X0.heap.size LG tRL) := q2; clear q1 q2; simp only [Act.put]))
  have hB4 : Below w.heap.size w X4 := by rw [E4.out]; exact below_setCells B1.out B0.out.size _
  exact bodyPost_ret (results_rl Tryd.results10 _ _ X0.heap.size tRL _ (.int .i64 (-1)) rfl rfl R4.out Tryd.underlying28 HIN.out) rfl ⟨rfl, hB4⟩

end Go.Proofs.YtkgfaioinajkjaaDoor
