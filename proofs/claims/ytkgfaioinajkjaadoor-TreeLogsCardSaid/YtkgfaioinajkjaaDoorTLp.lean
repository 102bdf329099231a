/-
  The law's lentPath, same, keptPath.
-/
import Derived.Test.YtkgfaioinajkjaaDoorTLent
import Derived.Test.YtkgfaioinajkjaaDoorTAwk
import Derived.Laws.CopyOwn
import Derived.Laws.MakeOwn
namespace Go.Proofs.YtkgfaioinajkjaaDoor
open Go Go.RowKit
open Sha

def m77 : List (BitVec 8) := 77#8 :: List.replicate 31 0#8
theorem dl_m77 : Dl m77 := rfl
theorem fl_flatten (ds : List (List (BitVec 8))) : ds.flatMap vB = vB ds.flatten := by
  induction ds with
  | nil => rfl
  | cons d r ih => rw [List.flatMap_cons, List.flatten_cons, vB_append, ih]
theorem flatten_len (ds : List (List (BitVec 8))) (h : ∀ d ∈ ds, d.length = 32) : ds.flatten.length = ds.length * 32 := by
  have := flat_length ds h
  rw [fl_flatten, vB_length] at this
  exact this
/-- Any bytes are digests, one behind the other. -/
theorem chunks (n : Nat) : ∀ bs : List (BitVec 8), n * 32 ≤ bs.length → ∃ ds : List (List (BitVec 8)), ds.length = n ∧ (∀ d ∈ ds, d.length = 32) ∧ ds.flatten = bs.take (n * 32) := by
  induction n with
  | zero => intro bs _; exact ⟨[], rfl, (fun d hd => by cases hd), by simp⟩
  | succ n ih =>
    intro bs h
    obtain ⟨ds, h1, h2, h3⟩ := ih (bs.drop 32) (by rw [List.length_drop]; omega)
    refine ⟨bs.take 32 :: ds, by simp [h1], fun d hd => ?_, ?_⟩
    · rcases List.mem_cons.1 hd with rfl | hd
      · rw [List.length_take]; omega
      · exact h2 d hd
    · rw [List.flatten_cons, h3, show (n + 1) * 32 = 32 + n * 32 by omega, List.take_add]
theorem pat_row {W : World} {g : Nat} {bs : List (BitVec 8)} {t : TypeId} (hr : Row W g (vB bs) t) (ds : List (List (BitVec 8))) (n cap : Nat) (hn : ds.length = n) (h32 : ∀ d ∈ ds, d.length = 32) (he : ds.flatten = bs.take (n * 32)) (hc : n ≤ cap) : PAt W (.slice (some ⟨g, 0, none⟩) n cap) ds :=
  ⟨h32, _, cap, by rw [hn], by rw [hn]; exact hc, .inr ⟨g, 0, rfl, fun j v hj => hr.all j v (by
    rw [fl_flatten, he] at hj
    unfold vB at hj ⊢
    rw [List.map_take, List.getElem?_take] at hj
    split at hj
    · exact hj
    · cases hj)⟩⟩

/-- The bytes of a lent list, t marks behind it. -/
def lp (ds : List (List (BitVec 8))) (t : Nat) : List (BitVec 8) := ds.flatten ++ ((List.replicate t m77).flatten ++ List.replicate ((9 - t) * 32) 0#8)
theorem m77s_len (t : Nat) : (List.replicate t m77).flatten.length = t * 32 := by
  rw [flatten_len _ (fun d hd => by rw [(List.mem_replicate.1 hd).2]; rfl), List.length_replicate]
theorem lp_len (ds : List (List (BitVec 8))) (h : ∀ d ∈ ds, d.length = 32) (t : Nat) (ht : t ≤ 9) : (lp ds t).length = (ds.length + 9) * 32 := by
  unfold lp
  rw [List.length_append, List.length_append, m77s_len, flatten_len ds h, List.length_replicate]
  omega
theorem splice_at (A B X Y D : List (BitVec 8)) (o : Nat) (ho : A.length + B.length = o) (hX : X.length = 32) : (A ++ (B ++ (X ++ D))).take o ++ Y ++ (A ++ (B ++ (X ++ D))).drop (o + 32) = A ++ (B ++ (Y ++ D)) := by
  subst ho
  rw [← List.append_assoc A B, List.take_append_of_le_length (by simp), List.take_of_length_le (by simp), List.drop_append, List.drop_of_length_le (by simp), show A.length + B.length + 32 - (A ++ B).length = 32 by simp, List.drop_append, List.drop_of_length_le (by omega), hX]
  simp
theorem lp_fill (ds : List (List (BitVec 8))) (h : ∀ d ∈ ds, d.length = 32) (t : Nat) (ht : t < 9) : (vB (lp ds t)).take ((ds.length + t) * 32) ++ vB m77 ++ (vB (lp ds t)).drop ((ds.length + t) * 32 + (vB m77).length) = vB (lp ds (t + 1)) := by
  have e0 : List.replicate ((9 - t) * 32) 0#8 = List.replicate 32 0#8 ++ List.replicate ((9 - (t + 1)) * 32) 0#8 := by
    rw [List.replicate_append_replicate]; congr 1; omega
  have e1 : (List.replicate (t + 1) m77).flatten = (List.replicate t m77).flatten ++ m77 := by
    rw [List.replicate_succ', List.flatten_append]; simp
  have key := splice_at ds.flatten (List.replicate t m77).flatten (List.replicate 32 0#8) m77 (List.replicate ((9 - (t + 1)) * 32) 0#8) ((ds.length + t) * 32) (by rw [m77s_len, flatten_len ds h]; omega) (by simp)
  rw [vB_length, show m77.length = 32 from rfl]
  unfold lp
  rw [e0, e1]
  unfold vB
  rw [← List.map_take, ← List.map_drop, ← List.map_append, ← List.map_append, key]
  simp only [List.append_assoc]
theorem lp_end (ds : List (List (BitVec 8))) : lp ds 9 = (ds ++ List.replicate 9 m77).flatten := by
  unfold lp; rw [List.flatten_append]; simp
theorem lp_start (ds : List (List (BitVec 8))) (h : ∀ d ∈ ds, d.length = 32) : (vB (List.replicate ((ds.length + 9) * 32) 0#8)).take 0 ++ vB ds.flatten ++ (vB (List.replicate ((ds.length + 9) * 32) 0#8)).drop (0 + (vB ds.flatten).length) = vB (lp ds 0) := by
  rw [vB_length, flatten_len ds h]
  unfold lp vB
  simp only [List.take_zero, List.nil_append, ← List.map_drop, ← List.map_append, List.drop_replicate, List.replicate_zero, List.flatten_nil]
  congr 3
  omega

theorem info_zero_ds : ((Tryd.prog.info? 42).bind (·.zero)).map (·.cells) = some z32.toArray := by kernel_rfl
theorem made_gen (m k : Nat) (hm : 0 < m) : madeCells (vB (List.replicate m 0#8)).toArray k = (vB (List.replicate k 0#8)).toArray := by
  apply Array.ext_getElem?
  intro j
  by_cases hj : j < k
  · simp [madeCells, vB, hj, Nat.mod_lt j hm]
  · simp [madeCells, vB, hj]
theorem made_d (n : Nat) : madeCells z32.toArray (n * 32) = (vB (List.replicate (n * 32) 0#8)).toArray := made_gen 32 (n * 32) (by decide)
theorem wp_build77 {o : Oper} {a : Act} {w : World} {K : Act → World → Prop} {Q : Exit → Act → World → Prop} (ho : o.op = .build 42 #[(0, .const (.int .u8 77))]) (h : K (a.put o.dst (.agg (vB m77).toArray)) w) : Oper.wp Tryd.prog o a w K Q := by
  obtain ⟨dst, op, ty, pos, after, guard⟩ := o
  simp only at ho
  subst ho
  unfold Oper.wp
  go_simp
  exact h
section
variable {ops : Array Oper} {rest : List Oper} {op : Oper} {a : Act} {w : World} {Q : Exit → Act → World → Prop}
theorem wpList_make_d (hgd : op.guard = none) (x y : Operand) (ho : op.op = .makeSlice 26 x y) (n : Nat) (l : Int) (hl : l = (n : Int)) (hx : a.eval x = .int .i64 l) (hy : a.eval y = .int .i64 l) (hn : n * 32 ≤ 281474976710656)
    (h : wpList Tryd.prog ops Q rest (a.put op.dst (.slice (some ⟨w.heap.size, 0, none⟩) n n)) (w.alloc (.cells (vB (List.replicate (n * 32) 0#8)).toArray 42))) : wpList Tryd.prog ops Q (op :: rest) a w :=
  wpList_plain hgd fun _ hK => by
    subst hl
    obtain ⟨ie, z, h1, h2, h3, h5, h4⟩ := info_d_open
    have hz : z.cells = z32.toArray := by
      have := info_zero_ds
      rw [h1] at this
      simp only [Option.bind_some, h2, Option.map_some, Option.some.injEq] at this
      exact this
    have hr := run_make (P := Tryd.prog) w 26 42 ie z Tryd.underlying26 h1 h2 .i64 .i64 (n : Int) (n : Int) (by omega) (by omega) (by rw [h5]; omega) (by omega)
    rw [h3, hz, Int.toNat_natCast, made_d] at hr
    unfold Oper.wp execOp
    simp only [ho, hx, hy, Sem.run_bind, hr, Result.andThen_ok]
    exact hK _ _ h
theorem run_copy_d (w : World) (ty : TypeId) (g dLen dCap : Nat) (ad : Addr) (sLen sCap : Nat) (cs : List Value) (hle : sLen ≤ dLen) (hn : cs.length = sLen * 32) (hsrc : ∀ j v, cs[j]? = some v → w.cell? (ad.add j) = some v) (ht : w.there g 0 cs.length) (h1 : ∀ v ∈ cs, v.oneCell' = true) :
    (Builtin.copy_ #[26, 26] ty #[.slice (some ⟨g, 0, none⟩) dLen dCap, .slice (some ad) sLen sCap]).run Tryd.prog w = .ok (goInt sLen) (w.setCells g 0 cs) := by
  obtain ⟨ie, z, hq, _, hi, _, _⟩ := info_d_open
  have hl := run_loadCells_list (P := Tryd.prog) w ad cs hsrc
  have hst := run_storeCells_cells (P := Tryd.prog) g 0 cs 0 w (fun j hj => by simpa using (ht j (by simpa using hj)).1) (fun j hj => by simpa using (ht j (by simpa using hj)).2) h1
  simp only [Nat.add_zero] at hst
  simp [Builtin.copy_, run_underlying Tryd.underlying26, Builtin.lenOf, Builtin.firstCells, sizeOf, typeInfo, hq, hi, Nat.min_eq_left hle, ← hn, hl, hst]
theorem run_copy_d0 (w : World) (ty : TypeId) (d s : Option Addr) (dLen dCap sCap : Nat) :
    (Builtin.copy_ #[26, 26] ty #[.slice d dLen dCap, .slice s 0 sCap]).run Tryd.prog w = .ok (goInt 0) w := by
  obtain ⟨ie, z, hq, _, _, _, _⟩ := info_d_open
  have hl : ∀ p : Addr, (loadCells p 0).run Tryd.prog w = .ok #[] w := fun p => run_loadCells_list (P := Tryd.prog) w p [] (fun j v hj => by simp at hj)
  cases d with
  | none => cases s <;> simp [Builtin.copy_, run_underlying Tryd.underlying26, Builtin.lenOf, Builtin.firstCells, sizeOf, typeInfo, hq, hl]
  | some d => cases s <;> simp [Builtin.copy_, run_underlying Tryd.underlying26, Builtin.lenOf, Builtin.firstCells, sizeOf, typeInfo, hq, hl, storeCells]
/-- copy of a list of digests into a row with room. -/
theorem wpList_copy_d (hgd : op.guard = none) (d s : Operand) (ho : op.op = .call { callee := .builtin .copy, args := #[d, s], argTypes := #[26, 26] })
    (g dLen dCap : Nat) (A : Option Addr) (cap : Nat) (ds : List (List (BitVec 8))) (hd : a.eval d = .slice (some ⟨g, 0, none⟩) dLen dCap) (hs : a.eval s = .slice A ds.length cap) (hp : PAt w (.slice A ds.length cap) ds) (hle : ds.length ≤ dLen) (ht : w.there g 0 (ds.length * 32))
    (h : wpList Tryd.prog ops Q rest (a.put op.dst (goInt ds.length)) (w.setCells g 0 (vB ds.flatten))) : wpList Tryd.prog ops Q (op :: rest) a w := by
  refine wpList_plain hgd fun K hK => ?_
  obtain ⟨h32, A', cap', e, hc, hr⟩ := hp
  simp only [Value.slice.injEq] at e
  obtain ⟨rfl, _, rfl⟩ := e
  rcases hr with rfl | ⟨b, o, rfl, hr⟩
  · have hrun := run_copy_d0 w op.type (some ⟨g, 0, none⟩) A dLen dCap cap
    refine wp_pure (v := goInt 0) ?_ (hK _ _ h)
    simp only [List.length_nil] at hs
    simp [execOp, ho, resolve, invoke, builtin, hd, hs, hrun, Result.andThen]
  · have hl := flatten_len ds h32
    rw [fl_flatten] at hr
    have hrun := run_copy_d w op.type g dLen dCap ⟨b, o, none⟩ ds.length cap (vB ds.flatten) hle (by rw [vB_length, hl]) (fun j v hj => by rw [Addr.add_mid]; exact hr j v hj) (by rw [vB_length, hl]; exact ht) (vB_one _)
    have hx : (execOp a.eval op).run Tryd.prog w = .ok (Next.value (goInt ds.length)) (w.setCells g 0 (vB ds.flatten)) := by
      simp [execOp, ho, resolve, invoke, builtin, hd, hs, hrun, Result.andThen]
    unfold Oper.wp
    rw [hx]
    exact hK _ _ h
theorem wpList_build77 (hw : Region.wanted op (yielded ops a.tmps) = true) (ho : op.op = .build 42 #[(0, .const (.int .u8 77))]) (h : wpList Tryd.prog ops Q rest (a.put op.dst (.agg (vB m77).toArray)) w) : wpList Tryd.prog ops Q (op :: rest) a w :=
  BigFrame.wpList_want hw fun _ hK => wp_build77 ho (hK _ _ h)
theorem wpList_index_d (hw : Region.wanted op (yielded ops a.tmps) = true) (x y : Operand) (ho : op.op = .indexAddr 26 x y) (b f n cap t o : Nat) (hof : f + t * 32 = o) (l : Int) (hl : l = (t : Int)) (hx : a.eval x = .slice (some ⟨b, f, none⟩) n cap) (hy : a.eval y = .int .i64 l) (ht : t < n)
    (h : wpList Tryd.prog ops Q rest (a.put op.dst (.pointer (some ⟨b, o, none⟩))) w) : wpList Tryd.prog ops Q (op :: rest) a w := by
  subst hl; subst hof
  exact BigFrame.wpList_want hw fun _ hK => wp_index_s 26 42 ho b f n cap t 32 hx hy ht Tryd.underlying26 info_dig (hK _ _ h)
theorem wpList_neq_dd (hw : Region.wanted op (yielded ops a.tmps) = true) (x y : Operand) (yt : TypeId) (ho : op.op = .binOp .neq 42 x y yt) (l r : List (BitVec 8)) (B : Bool) (hB : (!decide (l = r)) = B) (hl : Dl l) (hr : Dl r) (hx : a.eval x = .agg (vB l).toArray) (hy : a.eval y = .agg (vB r).toArray)
    (h : wpList Tryd.prog ops Q rest (a.put op.dst (.bool B)) w) : wpList Tryd.prog ops Q (op :: rest) a w :=
  BigFrame.wpList_want hw fun _ hK => wp_neq_d 42 x y yt ho 5 32 l r hx hy Tryd.underlying42 Tryd.underlying5 info_u8 hl hr guard_dig B hB (hK _ _ h)
end

set_option maxRecDepth 100000 in
set_option maxHeartbeats 1000000 in
theorem lentPath_any (ds : List (List (BitVec 8))) (hd : ds.length * 32 ≤ 140737488351232) (A : Option Addr) (cap : Nat) (w : World) (hp : PAt w (.slice A ds.length cap) ds) :
    Calls Tryd.prog 17 #[.slice A ds.length cap] w fun e w' => e = .returned (.slice (some ⟨w.heap.size, 0, none⟩) (ds.length + 9) (ds.length + 9)) ∧ Row w' w.heap.size (vB (ds ++ List.replicate 9 m77).flatten) 42 ∧ Below w.heap.size w w' := by
  have h32 := hp.1
  have H32 : Hid (∀ d ∈ ds, d.length = 32) := h32
  have HP : Hid (∀ o, PAt (w.alloc o) (.slice A ds.length cap) ds) := fun o => hp.below ((Below.refl _ _).alloc (Nat.le_refl _) _)
  clear hp
  obtain ⟨n, en⟩ : ∃ n, n = ds.length := ⟨_, rfl⟩
  have EN : Hid (n = ds.length) := en
  go_enter Tryd.func17, Tryd.ntmps17
  go_wp2_with (first
    | (refine wpList_make_d rfl (.tmp 7) (.tmp 7) rfl (ds.length + 9) _ (by omega) rfl rfl (by omega) ?_; simp only [Act.put, List.setIfInBounds_toArray, List.set_cons_zero, List.set_cons_succ])
    | (refine wpList_copy_d rfl (.tmp 9) (.tmp 10) rfl w.heap.size (ds.length + 9) (ds.length + 9) A cap ds rfl rfl (HP.out _) (by omega) (Row.there (Row.new w (vB (List.replicate ((ds.length + 9) * 32) 0#8)) 42) 0 _ (by simp [vB_length]; omega)) ?_; simp only [Act.put, List.setIfInBounds_toArray, List.set_cons_zero, List.set_cons_succ]))
  obtain ⟨W1, hW1⟩ : ∃ W1, W1 = World.setCells (w.alloc (Obj.cells (vB (List.replicate ((ds.length + 9) * 32) 0#8)).toArray 42)) w.heap.size 0 (vB ds.flatten) := ⟨_, rfl⟩
  have hB1 : Below w.heap.size w W1 := by rw [hW1]; exact below_setCells ((Below.refl _ _).alloc (Nat.le_refl _) _) (Nat.le_refl _) _
  have hr1 : Row W1 w.heap.size (vB (lp ds 0)) 42 := by
    have := Row.setCells 0 (vB ds.flatten) (Row.new w (vB (List.replicate ((ds.length + 9) * 32) 0#8)) 42) (by rw [vB_length, vB_length, flatten_len ds h32, List.length_replicate]; omega)
    rw [lp_start ds h32, ← hW1] at this; exact this
  rw [← hW1]
  clear hW1 HP h32 en
  go_loopw [4] (fun i wr => ∃ t : Nat, t ≤ 9 ∧ i = .int .i64 ((ds.length : Int) + t) ∧ Below w.heap.size w wr ∧ Row wr w.heap.size (vB (lp ds t)) 42)
    (fun i _ => ds.length + 9 - (intOf i).toNat)
  case atStart => exact ⟨0, by omega, by simp, hB1, hr1⟩
  case round =>
    clear hB1 hr1
    obtain ⟨t, ht, rfl, hb, hr⟩ := hrel
    by_cases hlt : t < 9
    · have T := hr.there ((ds.length + t) * 32) (vB m77).toArray.size (by rw [vB_length, lp_len ds H32.out t ht]; show _ + 32 ≤ _; omega)
      have hr2 := Row.setCells ((ds.length + t) * 32) (vB m77) hr (by rw [vB_length, vB_length, lp_len ds H32.out t ht]; show _ + 32 ≤ _; omega)
      rw [lp_fill ds H32.out t hlt] at hr2
      have hb2 := below_setCells hb (b := w.heap.size) (o := (ds.length + t) * 32) (Nat.le_refl _) (vB m77)
      obtain ⟨o, eo⟩ : ∃ o, o = (ds.length + t) * 32 := ⟨_, rfl⟩
      rw [← eo] at T hr2 hb2
      have EO : Hid (0 + (ds.length + t) * 32 = o) := by show _ = _; omega
      have B7 : Hid (∀ (o : Oper) (a : Act) (w : World) (K : Act → World → Prop) (Q : Exit → Act → World → Prop), o.op = .build 42 #[(0, .const (.int .u8 77))] → K (a.put o.dst (.agg (vB m77).toArray)) w → Oper.wp Tryd.prog o a w K Q) := fun o a w K Q ho h => wp_build77 ho h
      have HI : Hid (Dl m77) := dl_m77
      generalize m77 = mm at *
      have HT : Hid _ := T
      have HR2 : Hid _ := hr2
      have HB2 : Hid _ := hb2
      clear hr hr2 hb2 eo T
      go_wp2_with (first
        | (refine BigFrame.wpList_want rfl (fun _ hK => B7.out _ _ _ _ _ rfl (hK _ _ ?_)); simp only [Act.put, List.setIfInBounds_toArray, List.set_cons_zero, List.set_cons_succ])
        | (refine wpList_index_d rfl (.tmp 20) (.tmp 21) rfl w.heap.size 0 (ds.length + 9) (ds.length + 9) (ds.length + t) o EO.out _ (by omega) rfl rfl (by omega) ?_; simp only [Act.put, List.setIfInBounds_toArray, List.set_cons_zero, List.set_cons_succ])
        | (refine wpList_store_mid rfl 42 (.tmp 23) (.tmp 22) rfl w.heap.size o (vB mm).toArray rfl rfl HT.out HI.out.info' HI.out.one ?_; simp only [Act.put]; (change wpList _ _ _ _ _ (World.setCells wr w.heap.size o (vB mm)))))
      exact ⟨⟨t + 1, by omega, by go_num, HB2.out, HR2.out⟩, by simp [intOf]; omega⟩
    · obtain rfl : t = 9 := by omega
      go_wp2
      go_ret
      exact ⟨rfl, by rw [← lp_end]; exact hr, hb⟩

end Go.Proofs.YtkgfaioinajkjaaDoor
