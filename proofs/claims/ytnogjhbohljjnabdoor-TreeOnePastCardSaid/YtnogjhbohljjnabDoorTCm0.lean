/-
  What a growth comes to, and the texts digested for it: the cells of the document's struct.
-/
import Derived.Test.YtnogjhbohljjnabDoorTRsb
import Derived.Test.YtnogjhbohljjnabDoorTTxt
namespace Go.Proofs.YtnogjhbohljjnabDoor
open Go Go.RowKit
open Sha

/-- The texts that are digested for a growth. -/
def gt (m n : Nat) (k : Bool) (was : List (BitVec 8)) (ds : List (List (BitVec 8))) : List (List (BitVec 8)) :=
  if _h : m ≠ n ∧ 2 ≤ n ∧ n < 4611686018427387904 then
    if m ≤ fpart n then gt m (fpart n) k was ds.dropLast ++ [[1#8] ++ ((rsb m (fpart n) k was ds.dropLast).2 ++ ds.getLastD [])]
    else gt (m - fpart n) (n - fpart n) false was ds.dropLast ++ [[1#8] ++ (ds.getLastD [] ++ (rsb (m - fpart n) (n - fpart n) false was ds.dropLast).1), [1#8] ++ (ds.getLastD [] ++ (rsb (m - fpart n) (n - fpart n) false was ds.dropLast).2)]
  else []
termination_by n
decreasing_by
  all_goals first
    | exact (fpart_bounds n (by omega) (by omega)).1
    | (have := fpart_pos n; omega)
theorem gt_same (n : Nat) (k : Bool) (was : List (BitVec 8)) (ds : List (List (BitVec 8))) : gt n n k was ds = [] := by
  rw [gt, dif_neg (by omega)]
theorem gt_left (m n : Nat) (k : Bool) (was l : List (BitVec 8)) (rs : List (List (BitVec 8))) (hm : m < n) (h1 : 1 ≤ m) (hl : n < 4611686018427387904) (h : m ≤ fpart n) : gt m n k was (rs ++ [l]) = gt m (fpart n) k was rs ++ [[1#8] ++ ((rsb m (fpart n) k was rs).2 ++ l)] := by
  rw [gt, dif_pos ⟨by omega, by omega, hl⟩, if_pos h, List.dropLast_concat, List.getLastD_concat]
theorem gt_right (m n : Nat) (k : Bool) (was l : List (BitVec 8)) (rs : List (List (BitVec 8))) (hm : m < n) (h1 : 1 ≤ m) (hl : n < 4611686018427387904) (h : ¬ m ≤ fpart n) : gt m n k was (rs ++ [l]) = gt (m - fpart n) (n - fpart n) false was rs ++ [[1#8] ++ (l ++ (rsb (m - fpart n) (n - fpart n) false was rs).1), [1#8] ++ (l ++ (rsb (m - fpart n) (n - fpart n) false was rs).2)] := by
  rw [gt, dif_pos ⟨by omega, by omega, hl⟩, if_neg h, List.dropLast_concat, List.getLastD_concat]
theorem gt_len (n : Nat) : ∀ (m : Nat) (k : Bool) (was : List (BitVec 8)) (ds : List (List (BitVec 8))), 1 ≤ m → m ≤ n → n < 4611686018427387904 → (gt m n k was ds).length ≤ 2 * gs m n k := by
  induction n using Nat.strongRecOn with
  | ind n ih =>
    intro m k was ds h1 hm hn
    by_cases e : m = n
    · subst e; rw [gt_same]; simp
    · have hb := fpart_bounds n (by omega) hn
      have hp := fpart_pos n
      rw [gt, dif_pos ⟨e, by omega, hn⟩]
      by_cases hk : m ≤ fpart n
      · rw [if_pos hk, gs_left m n k (by omega) h1 hn hk, List.length_append]
        have := ih (fpart n) hb.1 m k was ds.dropLast h1 hk (by omega)
        simp only [List.length_cons, List.length_nil]; omega
      · rw [if_neg hk, gs_right m n k (by omega) h1 hn hk, List.length_append]
        have := ih (n - fpart n) (by omega) (m - fpart n) false was ds.dropLast (by omega) (by omega) (by omega)
        simp only [List.length_cons, List.length_nil]; omega

/-- The cells of what a growth comes to. -/
def cm (x y : List (BitVec 8)) (tv : Value) : List Value := vB x ++ (vB y ++ [tv])
def z65 : List Value := cm (List.replicate 32 0#8) (List.replicate 32 0#8) (.slice none 0 0)
theorem cm_len {x y : List (BitVec 8)} (hx : Dl x) (hy : Dl y) (tv : Value) : (cm x y tv).length = 65 := by
  unfold cm; rw [List.length_append, List.length_append, hx.len, hy.len]; rfl
theorem info_cm : (Tryd.prog.info? 77).map (·.size) = some 65 := by kernel_rfl
theorem cm_info {x y : List (BitVec 8)} (hx : Dl x) (hy : Dl y) (tv : Value) : (Tryd.prog.info? 77).map (·.size) = some (cm x y tv).length := by rw [info_cm, cm_len hx hy]
theorem cm_info' {x y : List (BitVec 8)} (hx : Dl x) (hy : Dl y) (tv : Value) : (Tryd.prog.info? 77).map (·.size) = some (cm x y tv).toArray.size := by rw [info_cm, List.size_toArray, cm_len hx hy]
theorem cm_one {x y : List (BitVec 8)} {tv : Value} (ht : tv.oneCell' = true) : (cm x y tv).toArray.all (·.oneCell') = true := all_oneCell_toArray (fun v hv => by
  unfold cm at hv
  rcases List.mem_append.1 hv with hv | hv
  · exact vB_one x v hv
  · rcases List.mem_append.1 hv with hv | hv
    · exact vB_one y v hv
    · rw [List.mem_singleton.1 hv]; exact ht)
theorem cm_x {W : World} {b : Nat} {x y : List (BitVec 8)} {tv : Value} {t : TypeId} (r : Row W b (cm x y tv) t) : W.rangeAt b 0 (vB x) := ran_left r.all
theorem cm_y {W : World} {b : Nat} {x y : List (BitVec 8)} {tv : Value} {t : TypeId} (hx : Dl x) (r : Row W b (cm x y tv) t) : W.rangeAt b 32 (vB y) := by
  have := ran_left (ran_right r.all hx.len)
  rwa [Nat.zero_add] at this
theorem cm_t {W : World} {b : Nat} {x y : List (BitVec 8)} {tv : Value} {t : TypeId} (hx : Dl x) (hy : Dl y) (r : Row W b (cm x y tv) t) : W.cell? ⟨b, 64, none⟩ = some tv :=
  r.cell 64 tv (by unfold cm; rw [List.getElem?_append_right (by rw [hx.len]; decide), List.getElem?_append_right (by rw [hx.len, hy.len]; decide), hx.len, hy.len]; rfl)
theorem cm_set_t {x y : List (BitVec 8)} (hx : Dl x) (hy : Dl y) (tv tw : Value) : (cm x y tv).set 64 tw = cm x y tw := by
  unfold cm
  rw [List.set_append_right _ _ (by rw [hx.len]; decide), List.set_append_right _ _ (by rw [hx.len, hy.len]; decide), hx.len, hy.len]; rfl
theorem cm_set_x {W : World} {b : Nat} {x y z : List (BitVec 8)} {tv : Value} {t : TypeId} (hx : Dl x) (hz : Dl z) (r : Row W b (cm x y tv) t) : Row (W.setCells b 0 (vB z)) b (cm z y tv) t := by
  have h := Row.setCells 0 (vB z) r (by unfold cm; rw [List.length_append, hz.len, hx.len]; omega)
  have e : (cm x y tv).take 0 ++ vB z ++ (cm x y tv).drop (0 + (vB z).length) = cm z y tv := by
    unfold cm
    rw [hz.len, List.take_zero, List.nil_append, Nat.zero_add, List.drop_append, List.drop_of_length_le (by rw [hx.len]; exact Nat.le_refl _), hx.len]; simp
  rw [e] at h; exact h
theorem cm_set_y {W : World} {b : Nat} {x y z : List (BitVec 8)} {tv : Value} {t : TypeId} (hx : Dl x) (hy : Dl y) (hz : Dl z) (r : Row W b (cm x y tv) t) : Row (W.setCells b 32 (vB z)) b (cm x z tv) t := by
  have h := Row.setCells 32 (vB z) r (by unfold cm; rw [List.length_append, List.length_append, hz.len, hx.len, hy.len]; simp)
  have e : (cm x y tv).take 32 ++ vB z ++ (cm x y tv).drop (32 + (vB z).length) = cm x z tv := by
    unfold cm
    rw [hz.len, List.take_append_of_le_length (by rw [hx.len]; exact Nat.le_refl _), List.take_of_length_le (by rw [hx.len]; exact Nat.le_refl _), List.drop_append, List.drop_of_length_le (by rw [hx.len]; decide), hx.len, List.nil_append, List.drop_append, List.drop_of_length_le (by rw [hy.len]; decide), hy.len]; simp
  rw [e] at h; exact h
/-- Behind an append a row of another type is as it was. -/
theorem row_grown {w w' : World} {N' e' size' n' b : Nat} {vp : Value} {cs xs' : List Value} {t : TypeId} (r : Row w b cs t) (hp : w.ownsRow N' e' size' vp n' xs') (hne : t ≠ e') (hg : w.grownBy w' vp.ownBlock) : Row w' b cs t := by
  refine (hg.block b r.lt ?_).trans r
  rcases hp.2 with ⟨h3, _⟩ | ⟨g', cap', cur', hv', _, hh', _⟩
  · rw [h3]; simp [Value.ownBlock]
  · rw [hv']
    simp only [Value.ownBlock, ne_eq, Option.some.injEq]
    intro hgg
    subst hgg
    have r' : w.heap[b]? = _ := r
    rw [r'] at hh'
    simp only [Option.some.injEq, Obj.cells.injEq] at hh'
    exact hne hh'.2.1

theorem fill_two (place : Nat → Option (Nat × Nat)) (h0 : place 0 = some (0, 32)) (h1 : place 1 = some (32, 32)) (a b cells : Array Value) : Instr.fill place cells [(0, .agg a), (1, .agg b)] = Instr.fill (fun i => some (i * 32, 32)) cells [(0, .agg a), (1, .agg b)] := by
  simp only [Instr.fill, h0, h1, Nat.zero_mul, Nat.one_mul]
theorem fill_cm (x y : List (BitVec 8)) (hx : Dl x) (hy : Dl y) : Instr.fill (fun i => some (i * 32, 32)) z65.toArray [(0, .agg (vB x).toArray), (1, .agg (vB y).toArray)] = some (cm x y (.slice none 0 0)).toArray := by
  obtain ⟨r, hr, hsz, hk⟩ := Great.fill_dense (s := 32) (by decide) [.agg (vB x).toArray, .agg (vB y).toArray] 0 z65.toArray (fun v hv => by
    rcases List.mem_cons.1 hv with rfl | hv
    · show (vB x).toArray.size = 32; rw [List.size_toArray, hx.len]
    · obtain rfl := List.mem_singleton.1 hv
      show (vB y).toArray.size = 32; rw [List.size_toArray, hy.len]) (by show 2 * 32 ≤ 65; decide)
  have hr' : Instr.fill (fun i => some (i * 32, 32)) z65.toArray [(0, .agg (vB x).toArray), (1, .agg (vB y).toArray)] = some r := hr
  rw [hr']
  congr 1
  apply Array.ext_getElem?
  intro k
  have eR : (cm x y (.slice none 0 0)).toArray[k]? = (cm x y (.slice none 0 0))[k]? := by simp
  rw [hk k, eR]
  unfold cm
  by_cases h1 : k < 32
  · rw [if_pos (by simp; omega), Nat.div_eq_of_lt h1, Nat.mod_eq_of_lt h1, List.getElem?_append_left (by rw [hx.len]; exact h1)]
    show (vB x).toArray[k]? = _
    simp
  · by_cases h2 : k < 64
    · rw [if_pos (by simp; omega), show k / 32 = 1 by omega, show k % 32 = k - 32 by omega, List.getElem?_append_right (by rw [hx.len]; omega), hx.len, List.getElem?_append_left (by rw [hy.len]; omega)]
      show (vB y).toArray[k - 32]? = _
      simp
    · rw [if_neg (by simp; omega), List.getElem?_append_right (by rw [hx.len]; omega), hx.len, List.getElem?_append_right (by rw [hy.len]; omega), hy.len]
      by_cases h3 : k = 64
      · subst h3; rfl
      · have e1 : ([Value.slice none 0 0] : List Value)[k - 32 - 32]? = none := List.getElem?_eq_none (by simp; omega)
        rw [e1]
        exact Array.getElem?_eq_none (show 65 ≤ k by omega)
theorem built_facts : ∃ places : List (Nat × Nat), (∀ parts, Tryd.prog.built 77 parts = Instr.fill (places.toArray[·]?) z65.toArray parts) ∧ places.toArray[0]? = some (0, 32) ∧ places.toArray[1]? = some (32, 32) :=
  ⟨[(0, 32), (32, 32), (64, 1)], fun _ => by kernel_rfl, rfl, rfl⟩
theorem built_cm (x y : List (BitVec 8)) (hx : Dl x) (hy : Dl y) : Tryd.prog.built 77 [(0, .agg (vB x).toArray), (1, .agg (vB y).toArray)] = some (cm x y (.slice none 0 0)).toArray := by
  obtain ⟨places, h1, h2, h3⟩ := built_facts
  rw [h1, fill_two _ h2 h3, fill_cm x y hx hy]
section
variable {Q : Exit → Act → World → Prop} {o : Oper} {a : Act} {w : World} {K : Act → World → Prop}
theorem wp_build_cm (p q : Operand) (ho : o.op = .build 77 #[(0, p), (1, q)]) (x y : List (BitVec 8)) (hx : Dl x) (hy : Dl y) (ex : a.eval p = .agg (vB x).toArray) (ey : a.eval q = .agg (vB y).toArray)
    (h : K (a.put o.dst (.agg (cm x y (.slice none 0 0)).toArray)) w) : Oper.wp Tryd.prog o a w K Q := by
  have e : ((#[(0, p), (1, q)] : Array (Nat × Operand)).map fun (i, x) => (i, a.eval x)).toList = [(0, .agg (vB x).toArray), (1, .agg (vB y).toArray)] := by simp [ex, ey]
  refine wp_build _ _ ho (by rw [e, built_cm x y hx hy]; rfl) ?_
  rw [e, built_cm x y hx hy]; exact h
theorem wp_alloc_cm (ho : o.op = .alloc 77) (h : K (a.put o.dst (.pointer (some ⟨w.heap.size, 0, none⟩))) (w.alloc (.cells z65.toArray 77))) : Oper.wp Tryd.prog o a w K Q := by
  obtain ⟨dst, op, ty, pos, after, guard⟩ := o
  simp only at ho
  subst ho
  unfold Oper.wp
  go_simp
  exact h
end
section
variable {ops : Array Oper} {rest : List Oper} {op : Oper} {a : Act} {w : World} {Q : Exit → Act → World → Prop}
theorem wpList_ix_d (hw : Region.wanted op (yielded ops a.tmps) = true) (x y : Operand) (ho : op.op = .indexAddr 30 x y) (b f n cap t o : Nat) (hof : f + t * 32 = o) (l : Int) (hl : l = (t : Int)) (hx : a.eval x = .slice (some ⟨b, f, none⟩) n cap) (hy : a.eval y = .int .i64 l) (ht : t < n)
    (h : wpList Tryd.prog ops Q rest (a.put op.dst (.pointer (some ⟨b, o, none⟩))) w) : wpList Tryd.prog ops Q (op :: rest) a w := by
  subst hl; subst hof
  exact BigFrame.wpList_want hw fun _ hK => wp_index_s 30 28 ho b f n cap t 32 hx hy ht Tryd.underlying30 info_dig (hK _ _ h)
theorem wpList_build_cm (hw : Region.wanted op (yielded ops a.tmps) = true) (p q : Operand) (ho : op.op = .build 77 #[(0, p), (1, q)]) (x y : List (BitVec 8)) (hx : Dl x) (hy : Dl y) (ex : a.eval p = .agg (vB x).toArray) (ey : a.eval q = .agg (vB y).toArray)
    (h : wpList Tryd.prog ops Q rest (a.put op.dst (.agg (cm x y (.slice none 0 0)).toArray)) w) : wpList Tryd.prog ops Q (op :: rest) a w :=
  BigFrame.wpList_want hw fun _ hK => wp_build_cm p q ho x y hx hy ex ey (hK _ _ h)
end
theorem wp_slice_cut {P : Program} {Q : Exit → Act → World → Prop} {o : Oper} {a : Act} {w : World} {K : Act → World → Prop} (t e : TypeId) (x z : Operand) (b f n cap k s : Nat) (ho : o.op = .slice t x none (some z) none) (hx : a.eval x = .slice (some ⟨b, f, none⟩) n cap) (hz : a.eval z = .int .i64 (k : Int)) (hk : k ≤ cap)
    (hu : P.underlying t = some (.slice e)) (hs : (P.info? e).map (·.size) = some s) (h : K (a.put o.dst (.slice (some ⟨b, f, none⟩) k cap)) w) : Oper.wp P o a w K Q := by
  cases hq : P.info? e with
  | none => simp [hq] at hs
  | some i =>
    have hr : (Instr.sliceAt t (.slice (some ⟨b, f, none⟩) n cap) none (some (.int .i64 (k : Int))) none).run P w = .ok (.slice (some ⟨b, f, none⟩) k cap) w := by
      simp [Instr.sliceAt, Instr.slice, run_underlying hu, Instr.sliceBounds, Instr.sliceBound, asIntOf, sizeOf, typeInfo, hq, hk, Addr.add_mid]
    unfold Oper.wp execOp
    simp only [ho, hx, hz, Option.map_some, Option.map_none, Sem.run_bind, hr, Result.andThen_ok, Sem.run_pure, Oper.upon_value]
    exact h

end Go.Proofs.YtnogjhbohljjnabDoor
