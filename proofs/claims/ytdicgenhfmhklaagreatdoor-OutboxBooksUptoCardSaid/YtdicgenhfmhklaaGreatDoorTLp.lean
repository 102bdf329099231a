/-
  The law's lentPath, same, keptPath.
-/
import Derived.Test.YtdicgenhfmhklaaGreatDoorTLent
import Derived.Test.YtdicgenhfmhklaaGreatDoorTAwk
import Derived.Laws.CopyOwn
import Derived.Laws.MakeOwn
namespace Go.Proofs.YtdicgenhfmhklaaGreatDoor
open Go Go.RowKit
open Sha

def m77 : List (BitVec 8) := 77#8 :: List.replicate 31 0#8
theorem dl_m77 : Dl m77 := rfl
theorem fl_flatten (ds : List (List (BitVec 8))) : ds.flatMap vB = vB ds.flatten := by
  induction ds with
  | nil => rfl
  | cons d r ih => rw [List.flatMap_cons, List.flatten_cons, vB_append, ih]
theorem flatten_len (ds : List (List (BitVec 8))) (h : ∀ d ∈ ds, d.length = 32) : ds.flatten.length = ds.length * 32 := by
  have := flat_length ds h
  rw [fl_flatten, vB_length] at this
  exact this
/-- Any bytes are digests, one behind the other. -/
theorem chunks (n : Nat) : ∀ bs : List (BitVec 8), n * 32 ≤ bs.length → ∃ ds : List (List (BitVec 8)), ds.length = n ∧ (∀ d ∈ ds, d.length = 32) ∧ ds.flatten = bs.take (n * 32) := by
  induction n with
  | zero => intro bs _; exact ⟨[], rfl, (fun d hd => by cases hd), by simp⟩
  | succ n ih =>
    intro bs h
    obtain ⟨ds, h1, h2, h3⟩ := ih (bs.drop 32) (by rw [List.length_drop]; omega)
    refine ⟨bs.take 32 :: ds, by simp [h1], fun d hd => ?_, ?_⟩
    · rcases List.mem_cons.1 hd with rfl | hd
      · rw [List.length_take]; omega
      · exact h2 d hd
    · rw [List.flatten_cons, h3, show (n + 1) * 32 = 32 + n * 32 by omega, List.take_add]
theorem pat_row {W : World} {g : Nat} {bs : List (BitVec 8)} {t : TypeId} (hr : Row W g (vB bs) t) (ds : List (List (BitVec 8))) (n cap : Nat) (hn : ds.length = n) (h32 : ∀ d ∈ ds, d.length = 32) (he : ds.flatten = bs.take (n * 32)) (hc : n ≤ cap) : PAt W (.slice (some ⟨g, 0, none⟩) n cap) ds :=
  ⟨h32, _, cap, by rw [hn], by rw [hn]; exact hc, .inr ⟨g, 0, rfl, fun j v hj => hr.all j v (by
    rw [fl_flatten, he] at hj
    unfold vB at hj ⊢
    rw [List.map_take, List.getElem?_take] at hj
    split at hj
    · exact hj
    · cases hj)⟩⟩

/-- The bytes of a lent list, t marks behind it. -/
def lp (ds : List (List (BitVec 8))) (t : Nat) : List (BitVec 8) := ds.flatten ++ ((List.replicate t m77).flatten ++ List.replicate ((9 - t) * 32) 0#8)
theorem m77s_len (t : Nat) : (List.replicate t m77).flatten.length = t * 32 := by
  rw [flatten_len _ (fun d hd => by rw [(List.mem_replicate.1 hd).2]; rfl), List.length_replicate]
theorem lp_len (ds : List (List (BitVec 8))) (h : ∀ d ∈ ds, d.length = 32) (t : Nat) (ht : t ≤ 9) : (lp ds t).length = (ds.length + 9) * 32 := by
  unfold lp
  rw [List.length_append, List.length_append, m77s_len, flatten_len ds h, List.length_replicate]
  omega
theorem splice_at (A B X Y D : List (BitVec 8)) (o : Nat) (ho : A.length + B.length = o) (hX : X.length = 32) : (A ++ (B ++ (X ++ D))).take o ++ Y ++ (A ++ (B ++ (X ++ D))).drop (o + 32) = A ++ (B ++ (Y ++ D)) := by
  subst ho
  rw [← List.append_assoc A B, List.take_append_of_le_length (by simp), List.take_of_length_le (by simp), List.drop_append, List.drop_of_length_le (by simp), show A.length + B.length + 32 - (A ++ B).length = 32 by simp, List.drop_append, List.drop_of_length_le (by omega), hX]
  simp
theorem lp_fill (ds : List (List (BitVec 8))) (h : ∀ d ∈ ds, d.length = 32) (t : Nat) (ht : t < 9) : (vB (lp ds t)).take ((ds.length + t) * 32) ++ vB m77 ++ (vB (lp ds t)).drop ((ds.length + t) * 32 + (vB m77).length) = vB (lp ds (t + 1)) := by
  have e0 : List.replicate ((9 - t) * 32) 0#8 = List.replicate 32 0#8 ++ List.replicate ((9 - (t + 1)) * 32) 0#8 := by
    rw [List.replicate_append_replicate]; congr 1; omega
  have e1 : (List.replicate (t + 1) m77).flatten = (List.replicate t m77).flatten ++ m77 := by
    rw [List.replicate_succ', List.flatten_append]; simp
  have key := splice_at ds.flatten (List.replicate t m77).flatten (List.replicate 32 0#8) m77 (List.replicate ((9 - (t + 1)) * 32) 0#8) ((ds.length + t) * 32) (by rw [m77s_len, flatten_len ds h]; omega) (by simp)
  rw [vB_length, show m77.length = 32 from rfl]
  unfold lp
  rw [e0, e1]
  unfold vB
  rw [← List.map_take, ← List.map_drop, ← List.map_append, ← List.map_append, key]
  simp only [List.append_assoc]
theorem lp_end (ds : List (List (BitVec 8))) : lp ds 9 = (ds ++ List.replicate 9 m77).flatten := by
  unfold lp; rw [List.flatten_append]; simp
theorem lp_start (ds : List (List (BitVec 8))) (h : ∀ d ∈ ds, d.length = 32) : (vB (List.replicate ((ds.length + 9) * 32) 0#8)).take 0 ++ vB ds.flatten ++ (vB (List.replicate ((ds.length + 9) * 32) 0#8)).drop (0 + (vB ds.flatten).length) = vB (lp ds 0) := by
  rw [vB_length, flatten_len ds h]
  unfold lp vB
  simp only [List.take_zero, List.nil_append, ← List.map_drop, ← List.map_append, List.drop_replicate, List.replicate_zero, List.flatten_nil]
  congr 3
  omega

theorem info_zero_ds : ((Tryz.prog.info? 44).bind (·.zero)).map (·.cells) = some z32T.toArray := by kernel_rfl
theorem made_gen (m k : Nat) (hm : 0 < m) : madeCells (vB (List.replicate m 0#8)).toArray k = (vB (List.replicate k 0#8)).toArray := by
  apply Array.ext_getElem?
  intro j
  by_cases hj : j < k
  · simp [madeCells, vB, hj, Nat.mod_lt j hm]
  · simp [madeCells, vB, hj]
theorem made_d (n : Nat) : madeCells z32T.toArray (n * 32) = (vB (List.replicate (n * 32) 0#8)).toArray := made_gen 32 (n * 32) (by decide)
theorem wp_build77 {o : Oper} {a : Act} {w : World} {K : Act → World → Prop} {Q : Exit → Act → World → Prop} (ho : o.op = .build 44 #[(0, .const (.int .u8 77))]) (h : K (a.put o.dst (.agg (vB m77).toArray)) w) : Oper.wp Tryz.prog o a w K Q := by
  obtain ⟨dst, op, ty, pos, after, guard⟩ := o
  simp only at ho
  subst ho
  unfold Oper.wp
  go_simp
  exact h
section
variable {ops : Array Oper} {rest : List Oper} {op : Oper} {a : Act} {w : World} {Q : Exit → Act → World → Prop}
theorem wpList_make_d (hgd : op.guard = none) (x y : Operand) (ho : op.op = .makeSlice 64 x y) (n : Nat) (l : Int) (hl : l = (n : Int)) (hx : a.eval x = .int .i64 l) (hy : a.eval y = .int .i64 l) (hn : n * 32 ≤ 281474976710656)
    (h : wpList Tryz.prog ops Q rest (a.put op.dst (.slice (some ⟨w.heap.size, 0, none⟩) n n)) (w.alloc (.cells (vB (List.replicate (n * 32) 0#8)).toArray 44))) : wpList Tryz.prog ops Q (op :: rest) a w :=
  wpList_plain hgd fun _ hK => by
    subst hl
    obtain ⟨ie, z, h1, h2, h3, h5, h4⟩ := info_d_open
    have hz : z.cells = z32T.toArray := by
      have := info_zero_ds
      rw [h1] at this
      simp only [Option.bind_some, h2, Option.map_some, Option.some.injEq] at this
      exact this
    have hr := run_make (P := Tryz.prog) w 64 44 ie z Tryz.underlying64 h1 h2 .i64 .i64 (n : Int) (n : Int) (by omega) (by omega) (by rw [h5]; omega) (by omega)
    rw [h3, hz, Int.toNat_natCast, made_d] at hr
    unfold Oper.wp execOp
    simp only [ho, hx, hy, Sem.run_bind, hr, Result.andThen_ok]
    exact hK _ _ h
theorem run_copy_d (w : World) (ty : TypeId) (g dLen dCap : Nat) (ad : Addr) (sLen sCap : Nat) (cs : List Value) (hle : sLen ≤ dLen) (hn : cs.length = sLen * 32) (hsrc : ∀ j v, cs[j]? = some v → w.cell? (ad.add j) = some v) (ht : w.there g 0 cs.length) (h1 : ∀ v ∈ cs, v.oneCell' = true) :
    (Builtin.copy_ #[64, 64] ty #[.slice (some ⟨g, 0, none⟩) dLen dCap, .slice (some ad) sLen sCap]).run Tryz.prog w = .ok (goInt sLen) (w.setCells g 0 cs) := by
  obtain ⟨ie, z, hq, _, hi, _, _⟩ := info_d_open
  have hl := run_loadCells_list (P := Tryz.prog) w ad cs hsrc
  have hst := run_storeCells_cells (P := Tryz.prog) g 0 cs 0 w (fun j hj => by simpa using (ht j (by simpa using hj)).1) (fun j hj => by simpa using (ht j (by simpa using hj)).2) h1
  simp only [Nat.add_zero] at hst
  simp [Builtin.copy_, run_underlying Tryz.underlying64, Builtin.lenOf, Builtin.firstCells, sizeOf, typeInfo, hq, hi, Nat.min_eq_left hle, ← hn, hl, hst]
theorem run_copy_d0 (w : World) (ty : TypeId) (d s : Option Addr) (dLen dCap sCap : Nat) :
    (Builtin.copy_ #[64, 64] ty #[.slice d dLen dCap, .slice s 0 sCap]).run Tryz.prog w = .ok (goInt 0) w := by
  obtain ⟨ie, z, hq, _, _, _, _⟩ := info_d_open
  have hl : ∀ p : Addr, (loadCells p 0).run Tryz.prog w = .ok #[] w := fun p => run_loadCells_list (P := Tryz.prog) w p [] (fun j v hj => by simp at hj)
  cases d with
  | none => cases s <;> simp [Builtin.copy_, run_underlying Tryz.underlying64, Builtin.lenOf, Builtin.firstCells, sizeOf, typeInfo, hq, hl]
  | some d => cases s <;> simp [Builtin.copy_, run_underlying Tryz.underlying64, Builtin.lenOf, Builtin.firstCells, sizeOf, typeInfo, hq, hl, storeCells]
/-- copy of a list of digests into a row with room. -/
theorem wpList_copy_d (hgd : op.guard = none) (d s : Operand) (ho : op.op = .call { callee := .builtin .copy, args := #[d, s], argTypes := #[64, 64] })
    (g dLen dCap : Nat) (A : Option Addr) (cap : Nat) (ds : List (List (BitVec 8))) (hd : a.eval d = .slice (some ⟨g, 0, none⟩) dLen dCap) (hs : a.eval s = .slice A ds.length cap) (hp : PAt w (.slice A ds.length cap) ds) (hle : ds.length ≤ dLen) (ht : w.there g 0 (ds.length * 32))
    (h : wpList Tryz.prog ops Q rest (a.put op.dst (goInt ds.length)) (w.setCells g 0 (vB ds.flatten))) : wpList Tryz.prog ops Q (op :: rest) a w := by
  refine wpList_plain hgd fun K hK => ?_
  obtain ⟨h32, A', cap', e, hc, hr⟩ := hp
  simp only [Value.slice.injEq] at e
  obtain ⟨rfl, _, rfl⟩ := e
  rcases hr with rfl | ⟨b, o, rfl, hr⟩
  · have hrun := run_copy_d0 w op.type (some ⟨g, 0, none⟩) A dLen dCap cap
    refine wp_pure (v := goInt 0) ?_ (hK _ _ h)
    simp only [List.length_nil] at hs
    simp [execOp, ho, resolve, invoke, builtin, hd, hs, hrun, Result.andThen]
  · have hl := flatten_len ds h32
    rw [fl_flatten] at hr
    have hrun := run_copy_d w op.type g dLen dCap ⟨b, o, none⟩ ds.length cap (vB ds.flatten) hle (by rw [vB_length, hl]) (fun j v hj => by rw [Addr.add_mid]; exact hr j v hj) (by rw [vB_length, hl]; exact ht) (vB_one _)
    have hx : (execOp a.eval op).run Tryz.prog w = .ok (Next.value (goInt ds.length)) (w.setCells g 0 (vB ds.flatten)) := by
      simp [execOp, ho, resolve, invoke, builtin, hd, hs, hrun, Result.andThen]
    unfold Oper.wp
    rw [hx]
    exact hK _ _ h
theorem wpList_build77 (hw : Region.wanted op (yielded ops a.tmps) = true) (ho : op.op = .build 44 #[(0, .const (.int .u8 77))]) (h : wpList Tryz.prog ops Q rest (a.put op.dst (.agg (vB m77).toArray)) w) : wpList Tryz.prog ops Q (op :: rest) a w :=
  BigFrame.wpList_want hw fun _ hK => wp_build77 ho (hK _ _ h)
theorem wpList_index_d (hw : Region.wanted op (yielded ops a.tmps) = true) (x y : Operand) (ho : op.op = .indexAddr 64 x y) (b f n cap t o : Nat) (hof : f + t * 32 = o) (l : Int) (hl : l = (t : Int)) (hx : a.eval x = .slice (some ⟨b, f, none⟩) n cap) (hy : a.eval y = .int .i64 l) (ht : t < n)
    (h : wpList Tryz.prog ops Q rest (a.put op.dst (.pointer (some ⟨b, o, none⟩))) w) : wpList Tryz.prog ops Q (op :: rest) a w := by
  subst hl; subst hof
  exact BigFrame.wpList_want hw fun _ hK => wp_index_s 64 44 ho b f n cap t 32 hx hy ht Tryz.underlying64 info_dig (hK _ _ h)
theorem wpList_neq_dd (hw : Region.wanted op (yielded ops a.tmps) = true) (x y : Operand) (yt : TypeId) (ho : op.op = .binOp .neq 44 x y yt) (l r : List (BitVec 8)) (B : Bool) (hB : (!decide (l = r)) = B) (hl : Dl l) (hr : Dl r) (hx : a.eval x = .agg (vB l).toArray) (hy : a.eval y = .agg (vB r).toArray)
    (h : wpList Tryz.prog ops Q rest (a.put op.dst (.bool B)) w) : wpList Tryz.prog ops Q (op :: rest) a w :=
  BigFrame.wpList_want hw fun _ hK => wp_neq_d 44 x y yt ho 5 32 l r hx hy Tryz.underlying44 Tryz.underlying5 info_u8T hl hr guard_dig B hB (hK _ _ h)
end

end Go.Proofs.YtdicgenhfmhklaaGreatDoor
