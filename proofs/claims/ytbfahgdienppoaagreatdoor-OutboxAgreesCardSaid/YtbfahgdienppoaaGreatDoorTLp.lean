/-
  The law's lentPath, same, keptPath.
-/
import Derived.Test.YtbfahgdienppoaaGreatDoorTTxt
import Derived.Laws.BytesArg
import Derived.Test.YtbfahgdienppoaaGreatDoorTAwk
import Derived.Laws.CopyOwn
import Derived.Laws.MakeOwn

namespace Go.Proofs.YtbfahgdienppoaaGreatDoor
open Go Go.RowKit
open Sha

/-- Bytes as a string. -/
def str (l : List (BitVec 8)) : ByteArray := strOfNums (l.map c)
theorem run_convert_str {P : Program} (w : World) (src e dst : TypeId) (hs : P.underlying src = some (.slice e)) (he : P.underlying e = some (.int .u8)) (hd : P.underlying dst = some .string) (b off cap n : Nat) (l : List (BitVec 8)) (hl : l.length = n)
    (hr : w.rangeAt b off (vB l)) : (convert src dst (.slice (some ⟨b, off, none⟩) n cap)).run P w = .ok (.string (str l)) w :=
  run_convert_bytes_arg w src e hs he b off n cap (l.map c) (by simpa using hl) (fun i hi => hr i _ (by rw [vB_get l i (by omega)]; simp [show i < l.length by omega])) dst hd
theorem run_convert_sl {P : Program} (w : World) (src e dst : TypeId) (hs : P.underlying src = some (.slice e)) (he : P.underlying e = some (.int .u8)) (hd : P.underlying dst = some .string) (v : Value) (d : List (BitVec 8)) (hv : SlAtT w v d) :
    (convert src dst v).run P w = .ok (.string (str d)) w := by
  rcases hv with ⟨rfl, A, cap, rfl⟩ | ⟨ab, ao, cap, rfl, _, hr⟩
  · cases A with
    | none =>
      rw [run_convert_bytes_string w src dst e none 0 cap hs he hd]
      simp [Conv.bytesToString]
      rfl
    | some p =>
      have hl : (loadCells p 0).run P w = .ok (([] : List Int).map (Value.int .u8)).toArray w := run_loadCells_list (P := P) w p [] (fun j v hj => by simp at hj)
      rw [run_convert_bytes_string w src dst e _ 0 cap hs he hd, run_bytesToString w _ 0 cap [] hl]
      rfl
  · exact run_convert_str w src e dst hs he hd ab ao cap d.length d rfl hr
theorem str_toList (l : List (BitVec 8)) : (str l).toList = toUT l := by
  rw [ByteArray.toList_eq]
  unfold str toUT
  rw [strOfNums_data, List.map_map]
  apply List.map_congr_left
  intro x _
  apply UInt8.toNat_inj.1
  have := x.isLt
  unfold c
  simp only [Function.comp_apply, Int.toNat_natCast, UInt8.toNat_ofNat', UInt8.toNat_ofBitVec]
  omega
theorem str_beq (l r : List (BitVec 8)) : ((str l).toList == (str r).toList) = decide (l = r) := by
  rw [str_toList, str_toList, toU_beqT]

section
variable {Q : Exit → Act → World → Prop} {o : Oper} {a : Act} {w : World} {K : Act → World → Prop}
theorem wp_conv_s {x : Operand} (ho : o.op = .convert 46 9 x) (d : List (BitVec 8)) (hv : SlAtT w (a.eval x) d) (h : K (a.put o.dst (.string (str d))) w) : Oper.wp Tryz.prog o a w K Q := by
  have hr := run_convert_sl (P := Tryz.prog) w 46 5 9 Tryz.underlying46 Tryz.underlying5 Tryz.underlying9 (a.eval x) d hv
  unfold Oper.wp execOp
  simp only [ho, Sem.run_bind, hr, Result.andThen_ok, Sem.run_pure, Oper.upon_value]
  exact h
theorem wp_neqstr_v {x y : Operand} {t yt : TypeId} {u v : ByteArray} {B : Bool} (ho : o.op = .binOp .neq t x y yt) (hx : a.eval x = .string u) (hy : a.eval y = .string v) (hB : (!(u.toList == v.toList)) = B) (h : K (a.put o.dst (.bool B)) w) : Oper.wp Tryz.prog o a w K Q := by
  subst hB
  unfold Oper.wp execOp
  simp only [ho, hx, hy]
  simp [go_sem]
  exact h
theorem wp_eql_d (x y : Operand) (yt : TypeId) (ho : o.op = .binOp .eql 53 x y yt) (l r : List (BitVec 8)) (hl : Dl l) (hr : Dl r) (hx : a.eval x = .agg (vB l).toArray) (hy : a.eval y = .agg (vB r).toArray) (B : Bool) (hB : decide (l = r) = B)
    (h : K (a.put o.dst (.bool B)) w) : Oper.wp Tryz.prog o a w K Q := by
  subst hB
  unfold Oper.wp execOp
  simp only [ho, hx, hy, Sem.run_bind, run_eqGuard_agg w .eql 53 x y _ _ guard_dig, Result.andThen_ok, run_eql_vBT w 53 5 32 Tryz.underlying53 Tryz.underlying5 info_u8T l r hl hr, Sem.run_pure, Oper.upon_value]
  exact h
theorem wp_load_1T {P : Program} {ty : TypeId} {x : Operand} (b f : Nat) (v : Value) (ho : o.op = .load ty x) (hx : a.eval x = .pointer (some ⟨b, f, none⟩)) (hr : (loadVar ty ⟨b, f, none⟩).run P w = .ok v w) (h : K (a.put o.dst v) w) : Oper.wp P o a w K Q := by
  unfold Oper.wp execOp
  simp only [ho, hx, Instr.loadAt, Instr.sureAddr, Sem.run_bind, Sem.run_pure, Result.andThen_ok, hr, Oper.upon_value]
  exact h
end
section
variable {ops : Array Oper} {rest : List Oper} {op : Oper} {a : Act} {w : World} {Q : Exit → Act → World → Prop}
theorem wpList_build_d (hgd : op.guard = none) (x : Operand) (ho : op.op = .buildSlice 63 1 #[(0, x)]) (r : List (BitVec 8)) (hr : Dl r) (hx : a.eval x = .agg (vB r).toArray)
    (h : wpList Tryz.prog ops Q rest (a.put op.dst (.slice (some ⟨w.heap.size, 0, none⟩) 1 1)) (w.alloc (.cells (vB r).toArray 53))) : wpList Tryz.prog ops Q (op :: rest) a w :=
  wpList_plain hgd fun _ hK => wp_build_d x ho r hr hx (hK _ _ h)
theorem wpList_append_d (hgd : op.guard = none) (s x : Operand) (ho : op.op = .call { callee := .builtin .append, args := #[s, x], argTypes := #[63, 63] }) (M N n : Nat) (v : Value) (l : List Value) (r : List (BitVec 8)) (hr0 : Dl r)
    (hown : w.ownsRow M 53 32 v n l) (hs : a.eval s = v) (hx : a.eval x = .slice (some ⟨N, 0, none⟩) 1 1) (hN : Row w N (vB r) 53) (hk : (n + 1) * 32 ≤ 140737488355328) (hM : M ≤ w.heap.size)
    (h : ∀ v' w', w'.ownsRow M 53 32 v' (n + 1) (l ++ vB r) → w.grownBy w' v.ownBlock → wpList Tryz.prog ops Q rest (a.put op.dst v') w') : wpList Tryz.prog ops Q (op :: rest) a w :=
  wpList_plain hgd fun _ hK => wp_append_d s x ho M N n v l r hr0 hown hs hx hN hk hM fun v' w' h1 h2 => hK _ _ (h v' w' h1 h2)
end

end Go.Proofs.YtbfahgdienppoaaGreatDoor

namespace Go.Proofs.YtbfahgdienppoaaGreatDoor
open Go Go.RowKit
open Sha

theorem c_xor1 (x : BitVec 8) : bits BinOp.xor IntKind.u8 (c x) 1 = c (x ^^^ 1#8) := by
  revert x; decide
theorem c_xor165 (x : BitVec 8) : bits BinOp.xor IntKind.u8 (c x) 165 = c (x ^^^ 165#8) := by
  revert x; decide

def marks70 : List (BitVec 8) := List.replicate 70 201#8
theorem lent_start (d : List (BitVec 8)) : (vB (List.replicate (d.length + 70) 0#8)).take 0 ++ vB d ++ (vB (List.replicate (d.length + 70) 0#8)).drop (0 + (vB d).length) = vB (d ++ (List.replicate 0 201#8 ++ List.replicate (70 - 0) 0#8)) := by
  simp [vB]
theorem lent_fill (d : List (BitVec 8)) (t : Nat) (h : t < 70) : (d ++ (List.replicate t 201#8 ++ List.replicate (70 - t) 0#8)).set (d.length + t) 201#8 = d ++ (List.replicate (t + 1) 201#8 ++ List.replicate (70 - (t + 1)) 0#8) := by
  rw [List.set_append_right _ _ (by omega), List.set_append_right _ _ (by simp), show 70 - t = (70 - (t + 1)) + 1 by omega, List.replicate_succ (n := 70 - (t + 1))]
  simp [List.replicate_succ' (n := t)]

theorem kept_get (d : List (BitVec 8)) (t : Nat) (h : t < 70) : (d ++ marks70).getD (d.length + t) 0 = 201#8 := by
  unfold marks70
  rw [List.getD_eq_getElem?_getD, List.getElem?_append_right (by omega), List.getElem?_replicate, if_pos (by omega)]; rfl

end Go.Proofs.YtbfahgdienppoaaGreatDoor

namespace Go.Proofs.YtbfahgdienppoaaGreatDoor
open Go Go.RowKit
open Sha

def m77 : List (BitVec 8) := 77#8 :: List.replicate 31 0#8
theorem dl_m77 : Dl m77 := rfl
theorem fl_flatten (ds : List (List (BitVec 8))) : ds.flatMap vB = vB ds.flatten := by
  induction ds with
  | nil => rfl
  | cons d r ih => rw [List.flatMap_cons, List.flatten_cons, vB_append, ih]
theorem flatten_len (ds : List (List (BitVec 8))) (h : ∀ d ∈ ds, d.length = 32) : ds.flatten.length = ds.length * 32 := by
  have := flat_length ds h
  rw [fl_flatten, vB_length] at this
  exact this
/-- Any bytes are digests, one behind the other. -/
theorem chunks (n : Nat) : ∀ bs : List (BitVec 8), n * 32 ≤ bs.length → ∃ ds : List (List (BitVec 8)), ds.length = n ∧ (∀ d ∈ ds, d.length = 32) ∧ ds.flatten = bs.take (n * 32) := by
  induction n with
  | zero => intro bs _; exact ⟨[], rfl, (fun d hd => by cases hd), by simp⟩
  | succ n ih =>
    intro bs h
    obtain ⟨ds, h1, h2, h3⟩ := ih (bs.drop 32) (by rw [List.length_drop]; omega)
    refine ⟨bs.take 32 :: ds, by simp [h1], fun d hd => ?_, ?_⟩
    · rcases List.mem_cons.1 hd with rfl | hd
      · rw [List.length_take]; omega
      · exact h2 d hd
    · rw [List.flatten_cons, h3, show (n + 1) * 32 = 32 + n * 32 by omega, List.take_add]
theorem pat_row {W : World} {g : Nat} {bs : List (BitVec 8)} {t : TypeId} (hr : Row W g (vB bs) t) (ds : List (List (BitVec 8))) (n cap : Nat) (hn : ds.length = n) (h32 : ∀ d ∈ ds, d.length = 32) (he : ds.flatten = bs.take (n * 32)) (hc : n ≤ cap) : PAt W (.slice (some ⟨g, 0, none⟩) n cap) ds :=
  ⟨h32, _, cap, by rw [hn], by rw [hn]; exact hc, .inr ⟨g, 0, rfl, fun j v hj => hr.all j v (by
    rw [fl_flatten, he] at hj
    unfold vB at hj ⊢
    rw [List.map_take, List.getElem?_take] at hj
    split at hj
    · exact hj
    · cases hj)⟩⟩

/-- The bytes of a lent list, t marks behind it. -/
def lp (ds : List (List (BitVec 8))) (t : Nat) : List (BitVec 8) := ds.flatten ++ ((List.replicate t m77).flatten ++ List.replicate ((9 - t) * 32) 0#8)
theorem m77s_len (t : Nat) : (List.replicate t m77).flatten.length = t * 32 := by
  rw [flatten_len _ (fun d hd => by rw [(List.mem_replicate.1 hd).2]; rfl), List.length_replicate]
theorem lp_len (ds : List (List (BitVec 8))) (h : ∀ d ∈ ds, d.length = 32) (t : Nat) (ht : t ≤ 9) : (lp ds t).length = (ds.length + 9) * 32 := by
  unfold lp
  rw [List.length_append, List.length_append, m77s_len, flatten_len ds h, List.length_replicate]
  omega
theorem splice_at (A B X Y D : List (BitVec 8)) (o : Nat) (ho : A.length + B.length = o) (hX : X.length = 32) : (A ++ (B ++ (X ++ D))).take o ++ Y ++ (A ++ (B ++ (X ++ D))).drop (o + 32) = A ++ (B ++ (Y ++ D)) := by
  subst ho
  rw [← List.append_assoc A B, List.take_append_of_le_length (by simp), List.take_of_length_le (by simp), List.drop_append, List.drop_of_length_le (by simp), show A.length + B.length + 32 - (A ++ B).length = 32 by simp, List.drop_append, List.drop_of_length_le (by omega), hX]
  simp
theorem lp_fill (ds : List (List (BitVec 8))) (h : ∀ d ∈ ds, d.length = 32) (t : Nat) (ht : t < 9) : (vB (lp ds t)).take ((ds.length + t) * 32) ++ vB m77 ++ (vB (lp ds t)).drop ((ds.length + t) * 32 + (vB m77).length) = vB (lp ds (t + 1)) := by
  have e0 : List.replicate ((9 - t) * 32) 0#8 = List.replicate 32 0#8 ++ List.replicate ((9 - (t + 1)) * 32) 0#8 := by
    rw [List.replicate_append_replicate]; congr 1; omega
  have e1 : (List.replicate (t + 1) m77).flatten = (List.replicate t m77).flatten ++ m77 := by
    rw [List.replicate_succ', List.flatten_append]; simp
  have key := splice_at ds.flatten (List.replicate t m77).flatten (List.replicate 32 0#8) m77 (List.replicate ((9 - (t + 1)) * 32) 0#8) ((ds.length + t) * 32) (by rw [m77s_len, flatten_len ds h]; omega) (by simp)
  rw [vB_length, show m77.length = 32 from rfl]
  unfold lp
  rw [e0, e1]
  unfold vB
  rw [← List.map_take, ← List.map_drop, ← List.map_append, ← List.map_append, key]
  simp only [List.append_assoc]
theorem lp_end (ds : List (List (BitVec 8))) : lp ds 9 = (ds ++ List.replicate 9 m77).flatten := by
  unfold lp; rw [List.flatten_append]; simp
theorem lp_start (ds : List (List (BitVec 8))) (h : ∀ d ∈ ds, d.length = 32) : (vB (List.replicate ((ds.length + 9) * 32) 0#8)).take 0 ++ vB ds.flatten ++ (vB (List.replicate ((ds.length + 9) * 32) 0#8)).drop (0 + (vB ds.flatten).length) = vB (lp ds 0) := by
  rw [vB_length, flatten_len ds h]
  unfold lp vB
  simp only [List.take_zero, List.nil_append, ← List.map_drop, ← List.map_append, List.drop_replicate, List.replicate_zero, List.flatten_nil]
  congr 3
  omega

theorem info_zero_ds : ((Tryz.prog.info? 53).bind (·.zero)).map (·.cells) = some z32T.toArray := by kernel_rfl
theorem made_gen (m k : Nat) (hm : 0 < m) : madeCells (vB (List.replicate m 0#8)).toArray k = (vB (List.replicate k 0#8)).toArray := by
  apply Array.ext_getElem?
  intro j
  by_cases hj : j < k
  · simp [madeCells, vB, hj, Nat.mod_lt j hm]
  · simp [madeCells, vB, hj]
theorem made_d (n : Nat) : madeCells z32T.toArray (n * 32) = (vB (List.replicate (n * 32) 0#8)).toArray := made_gen 32 (n * 32) (by decide)
theorem wp_build77 {o : Oper} {a : Act} {w : World} {K : Act → World → Prop} {Q : Exit → Act → World → Prop} (ho : o.op = .build 53 #[(0, .const (.int .u8 77))]) (h : K (a.put o.dst (.agg (vB m77).toArray)) w) : Oper.wp Tryz.prog o a w K Q := by
  obtain ⟨dst, op, ty, pos, after, guard⟩ := o
  simp only at ho
  subst ho
  unfold Oper.wp
  go_simp
  exact h
section
variable {ops : Array Oper} {rest : List Oper} {op : Oper} {a : Act} {w : World} {Q : Exit → Act → World → Prop}
theorem wpList_make_d (hgd : op.guard = none) (x y : Operand) (ho : op.op = .makeSlice 63 x y) (n : Nat) (l : Int) (hl : l = (n : Int)) (hx : a.eval x = .int .i64 l) (hy : a.eval y = .int .i64 l) (hn : n * 32 ≤ 281474976710656)
    (h : wpList Tryz.prog ops Q rest (a.put op.dst (.slice (some ⟨w.heap.size, 0, none⟩) n n)) (w.alloc (.cells (vB (List.replicate (n * 32) 0#8)).toArray 53))) : wpList Tryz.prog ops Q (op :: rest) a w :=
  wpList_plain hgd fun _ hK => by
    subst hl
    obtain ⟨ie, z, h1, h2, h3, h5, h4⟩ := info_d_open
    have hz : z.cells = z32T.toArray := by
      have := info_zero_ds
      rw [h1] at this
      simp only [Option.bind_some, h2, Option.map_some, Option.some.injEq] at this
      exact this
    have hr := run_make (P := Tryz.prog) w 63 53 ie z Tryz.underlying63 h1 h2 .i64 .i64 (n : Int) (n : Int) (by omega) (by omega) (by rw [h5]; omega) (by omega)
    rw [h3, hz, Int.toNat_natCast, made_d] at hr
    unfold Oper.wp execOp
    simp only [ho, hx, hy, Sem.run_bind, hr, Result.andThen_ok]
    exact hK _ _ h
theorem run_copy_d (w : World) (ty : TypeId) (g dLen dCap : Nat) (ad : Addr) (sLen sCap : Nat) (cs : List Value) (hle : sLen ≤ dLen) (hn : cs.length = sLen * 32) (hsrc : ∀ j v, cs[j]? = some v → w.cell? (ad.add j) = some v) (ht : w.there g 0 cs.length) (h1 : ∀ v ∈ cs, v.oneCell' = true) :
    (Builtin.copy_ #[63, 63] ty #[.slice (some ⟨g, 0, none⟩) dLen dCap, .slice (some ad) sLen sCap]).run Tryz.prog w = .ok (goInt sLen) (w.setCells g 0 cs) := by
  obtain ⟨ie, z, hq, _, hi, _, _⟩ := info_d_open
  have hl := run_loadCells_list (P := Tryz.prog) w ad cs hsrc
  have hst := run_storeCells_cells (P := Tryz.prog) g 0 cs 0 w (fun j hj => by simpa using (ht j (by simpa using hj)).1) (fun j hj => by simpa using (ht j (by simpa using hj)).2) h1
  simp only [Nat.add_zero] at hst
  simp [Builtin.copy_, run_underlying Tryz.underlying63, Builtin.lenOf, Builtin.firstCells, sizeOf, typeInfo, hq, hi, Nat.min_eq_left hle, ← hn, hl, hst]
theorem run_copy_d0 (w : World) (ty : TypeId) (d s : Option Addr) (dLen dCap sCap : Nat) :
    (Builtin.copy_ #[63, 63] ty #[.slice d dLen dCap, .slice s 0 sCap]).run Tryz.prog w = .ok (goInt 0) w := by
  obtain ⟨ie, z, hq, _, _, _, _⟩ := info_d_open
  have hl : ∀ p : Addr, (loadCells p 0).run Tryz.prog w = .ok #[] w := fun p => run_loadCells_list (P := Tryz.prog) w p [] (fun j v hj => by simp at hj)
  cases d with
  | none => cases s <;> simp [Builtin.copy_, run_underlying Tryz.underlying63, Builtin.lenOf, Builtin.firstCells, sizeOf, typeInfo, hq, hl]
  | some d => cases s <;> simp [Builtin.copy_, run_underlying Tryz.underlying63, Builtin.lenOf, Builtin.firstCells, sizeOf, typeInfo, hq, hl, storeCells]
/-- copy of a list of digests into a row with room. -/
theorem wpList_copy_d (hgd : op.guard = none) (d s : Operand) (ho : op.op = .call { callee := .builtin .copy, args := #[d, s], argTypes := #[63, 63] })
    (g dLen dCap : Nat) (A : Option Addr) (cap : Nat) (ds : List (List (BitVec 8))) (hd : a.eval d = .slice (some ⟨g, 0, none⟩) dLen dCap) (hs : a.eval s = .slice A ds.length cap) (hp : PAt w (.slice A ds.length cap) ds) (hle : ds.length ≤ dLen) (ht : w.there g 0 (ds.length * 32))
    (h : wpList Tryz.prog ops Q rest (a.put op.dst (goInt ds.length)) (w.setCells g 0 (vB ds.flatten))) : wpList Tryz.prog ops Q (op :: rest) a w := by
  refine wpList_plain hgd fun K hK => ?_
  obtain ⟨h32, A', cap', e, hc, hr⟩ := hp
  simp only [Value.slice.injEq] at e
  obtain ⟨rfl, _, rfl⟩ := e
  rcases hr with rfl | ⟨b, o, rfl, hr⟩
  · have hrun := run_copy_d0 w op.type (some ⟨g, 0, none⟩) A dLen dCap cap
    refine wp_pure (v := goInt 0) ?_ (hK _ _ h)
    simp only [List.length_nil] at hs
    simp [execOp, ho, resolve, invoke, builtin, hd, hs, hrun, Result.andThen]
  · have hl := flatten_len ds h32
    rw [fl_flatten] at hr
    have hrun := run_copy_d w op.type g dLen dCap ⟨b, o, none⟩ ds.length cap (vB ds.flatten) hle (by rw [vB_length, hl]) (fun j v hj => by rw [Addr.add_mid]; exact hr j v hj) (by rw [vB_length, hl]; exact ht) (vB_one _)
    have hx : (execOp a.eval op).run Tryz.prog w = .ok (Next.value (goInt ds.length)) (w.setCells g 0 (vB ds.flatten)) := by
      simp [execOp, ho, resolve, invoke, builtin, hd, hs, hrun, Result.andThen]
    unfold Oper.wp
    rw [hx]
    exact hK _ _ h
theorem wpList_build77 (hw : Region.wanted op (yielded ops a.tmps) = true) (ho : op.op = .build 53 #[(0, .const (.int .u8 77))]) (h : wpList Tryz.prog ops Q rest (a.put op.dst (.agg (vB m77).toArray)) w) : wpList Tryz.prog ops Q (op :: rest) a w :=
  BigFrame.wpList_want hw fun _ hK => wp_build77 ho (hK _ _ h)
theorem wpList_index_d (hw : Region.wanted op (yielded ops a.tmps) = true) (x y : Operand) (ho : op.op = .indexAddr 63 x y) (b f n cap t o : Nat) (hof : f + t * 32 = o) (l : Int) (hl : l = (t : Int)) (hx : a.eval x = .slice (some ⟨b, f, none⟩) n cap) (hy : a.eval y = .int .i64 l) (ht : t < n)
    (h : wpList Tryz.prog ops Q rest (a.put op.dst (.pointer (some ⟨b, o, none⟩))) w) : wpList Tryz.prog ops Q (op :: rest) a w := by
  subst hl; subst hof
  exact BigFrame.wpList_want hw fun _ hK => wp_index_s 63 53 ho b f n cap t 32 hx hy ht Tryz.underlying63 info_dig (hK _ _ h)
theorem wpList_neq_dd (hw : Region.wanted op (yielded ops a.tmps) = true) (x y : Operand) (yt : TypeId) (ho : op.op = .binOp .neq 53 x y yt) (l r : List (BitVec 8)) (B : Bool) (hB : (!decide (l = r)) = B) (hl : Dl l) (hr : Dl r) (hx : a.eval x = .agg (vB l).toArray) (hy : a.eval y = .agg (vB r).toArray)
    (h : wpList Tryz.prog ops Q rest (a.put op.dst (.bool B)) w) : wpList Tryz.prog ops Q (op :: rest) a w :=
  BigFrame.wpList_want hw fun _ hK => wp_neq_d 53 x y yt ho 5 32 l r hx hy Tryz.underlying53 Tryz.underlying5 info_u8T hl hr guard_dig B hB (hK _ _ h)
end

end Go.Proofs.YtbfahgdienppoaaGreatDoor
