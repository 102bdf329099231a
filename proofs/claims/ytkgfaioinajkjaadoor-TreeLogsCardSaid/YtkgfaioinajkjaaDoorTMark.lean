/-
  The law's marked: so many digests of one mark.
-/
import Derived.Test.YtkgfaioinajkjaaDoorTOwn0
import Derived.Test.YtkgfaioinajkjaaDoorTDg
namespace Go.Proofs.YtkgfaioinajkjaaDoor
open Go Go.RowKit
open Sha

/-- A mark as a digest. -/
def md (m : BitVec 8) : List (BitVec 8) := m :: List.replicate 31 0#8
theorem dl_md (m : BitVec 8) : Dl (md m) := rfl
theorem built_md (k : Int) (cs : List Value) (h : cs = [.int .u8 k, .int .u8 0, .int .u8 0, .int .u8 0, .int .u8 0, .int .u8 0, .int .u8 0, .int .u8 0, .int .u8 0, .int .u8 0, .int .u8 0, .int .u8 0, .int .u8 0, .int .u8 0, .int .u8 0, .int .u8 0, .int .u8 0, .int .u8 0, .int .u8 0, .int .u8 0, .int .u8 0, .int .u8 0, .int .u8 0, .int .u8 0, .int .u8 0, .int .u8 0, .int .u8 0, .int .u8 0, .int .u8 0, .int .u8 0, .int .u8 0, .int .u8 0]) : Tryd.prog.built 42 [(0, .int .u8 k)] = some cs.toArray := by
  subst h
  kernel_rfl
theorem wp_buildx {o : Oper} {a : Act} {w : World} {K : Act → World → Prop} {Q : Exit → Act → World → Prop} (x : Operand) (m : BitVec 8) (ho : o.op = .build 42 #[(0, x)]) (hx : a.eval x = .int .u8 (c m)) (h : K (a.put o.dst (.agg (vB (md m)).toArray)) w) : Oper.wp Tryd.prog o a w K Q := by
  have e : ((#[(0, x)] : Array (Nat × Operand)).map fun (i, x) => (i, a.eval x)).toList = [(0, .int .u8 (c m))] := by simp [hx]
  have hb : Tryd.prog.built 42 [(0, .int .u8 (c m))] = some (vB (md m)).toArray := built_md (c m) _ rfl
  refine wp_build _ _ ho (by rw [e, hb]; rfl) ?_
  rw [e, hb]; exact h
section
variable {ops : Array Oper} {rest : List Oper} {op : Oper} {a : Act} {w : World} {Q : Exit → Act → World → Prop}
theorem wpList_buildx (hw : Region.wanted op (yielded ops a.tmps) = true) (x : Operand) (m : BitVec 8) (mm : List (BitVec 8)) (hm : mm = md m) (ho : op.op = .build 42 #[(0, x)]) (hx : a.eval x = .int .u8 (c m))
    (h : wpList Tryd.prog ops Q rest (a.put op.dst (.agg (vB mm).toArray)) w) : wpList Tryd.prog ops Q (op :: rest) a w := by
  subst hm
  exact BigFrame.wpList_want hw fun _ hK => wp_buildx x m ho hx (hK _ _ h)
theorem wpList_build_dd (hw : Region.wanted op (yielded ops a.tmps) = true) (x : Operand) (ho : op.op = .buildSlice 26 1 #[(0, x)]) (r : List (BitVec 8)) (hr : Dl r) (hx : a.eval x = .agg (vB r).toArray)
    (h : wpList Tryd.prog ops Q rest (a.put op.dst (.slice (some ⟨w.heap.size, 0, none⟩) 1 1)) (w.alloc (.cells (vB r).toArray 42))) : wpList Tryd.prog ops Q (op :: rest) a w :=
  BigFrame.wpList_want hw fun _ hK => wp_build_d x ho r hr hx (hK _ _ h)
end

/-- A list that was made here. -/
def Fresh (N : Nat) (v : Value) : Prop := ∀ g, v.ownBlock = some g → N ≤ g
theorem Fresh.more {N M : Nat} {v : Value} (h : Fresh M v) (k : N ≤ M) : Fresh N v := fun g e => Nat.le_trans k (h g e)
theorem fresh_of {w : World} {N n : Nat} {v : Value} {xs : List Value} (h : w.ownsRow N 42 32 v n xs) : Fresh N v := own_block h
theorem ow_of {w : World} {N n : Nat} {v : Value} {xs : List Value} (h : w.ownsRow N 42 32 v n xs) : Ow w v n xs := own_less h (Nat.zero_le _)

set_option maxRecDepth 100000 in
set_option maxHeartbeats 4000000 in
theorem marked_any (n : Nat) (hn : n * 32 ≤ 140737488355328) (l : Int) (hl : l = (n : Int)) (m : BitVec 8) (k : Int) (hk : k = c m) (mm : List (BitVec 8)) (hm : mm = md m) (w : World) :
    Calls Tryd.prog 32 #[.int .i64 l, .int .u8 k] w fun e w' => ∃ v, e = .returned v ∧ Ow w' v n (vB (rp mm n)) ∧ Fresh w.heap.size v ∧ Below w.heap.size w w' := by
  subst hl
  subst hk
  have HD : Dl mm := by rw [hm]; exact dl_md m
  have HM : Hid (mm = md m) := hm
  have HN : Hid (n * 32 ≤ 140737488355328) := hn
  have hs : n ≤ 4398046511104 := by omega
  clear hm hn
  obtain ⟨k, ek⟩ : ∃ k, k = c m := ⟨_, rfl⟩
  have EK : Hid (k = c m) := ek
  rw [← ek]
  clear ek
  go_enter Tryd.func32, Tryd.ntmps32
  go_wp2
  go_loopw [5, 6] (fun v i wr => ∃ t : Nat, t ≤ n ∧ i = .int .i64 (t : Int) ∧ Ow wr v t (vB (rp mm t)) ∧ Fresh w.heap.size v ∧ Below w.heap.size w wr) (fun _ i _ => n - (intOf i).toNat)
  case atStart => exact ⟨0, Nat.zero_le _, rfl, ⟨rfl, .inl ⟨rfl, rfl⟩⟩, fun g e => by simp [Value.ownBlock] at e, Below.refl _ _⟩
  case round =>
    obtain ⟨t, ht, rfl, hO, hF, hb⟩ := hrel
    by_cases hlt : t < n
    · obtain ⟨Av, cv, ev, _⟩ := hO.form
      subst ev
      have HO : Hid _ := hO
      have HF : Hid _ := hF
      have HB : Hid _ := hb
      have hB1 : Below wr.heap.size wr (wr.alloc (.cells (vB mm).toArray 42)) := (Below.refl _ _).alloc (Nat.le_refl _) _
      have r1 : Row (wr.alloc (.cells (vB mm).toArray 42)) wr.heap.size (vB mm) 42 := Row.new' rfl rfl
      replace hO := hO.be hB1
      have hb2 := hb.trans (hB1.mono hb.size)
      have HN1 : Hid ((t + 1) * 32 ≤ 140737488355328) := by have := HN.out; show _ ≤ _; omega
      have R1 : Hid _ := r1
      have O1 : Hid _ := hO
      have B2 : Hid _ := hb2
      clear hO hb hF hB1 r1 hb2
      go_wp2_with (first
        | (refine wpList_buildx rfl (.tmp 13) m mm HM.out rfl (by show Value.int .u8 k = _; rw [EK.out]) ?_; simp only [Act.put, List.setIfInBounds_toArray, List.set_cons_zero, List.set_cons_succ])
        | (refine wpList_build_dd rfl (.tmp 14) rfl mm HD rfl ?_; simp only [Act.put, List.setIfInBounds_toArray, List.set_cons_zero, List.set_cons_succ])
        | (refine wpList_append_still rfl (.tmp 12) (.tmp 15) rfl wr.heap.size t _ _ mm HD rfl O1.out rfl R1.out HN1.out ?_; intro v' w' q1 q2 q3 q4; obtain ⟨Ax, cx, ex, _⟩ := q1.form; subst ex; simp only [Act.put, List.setIfInBounds_toArray, List.set_cons_zero, List.set_cons_succ]; have Q1 : Hid _ := q1; have Q2 : Hid _ := q2; have Q3 : Hid _ := q3; clear q1 q2 q3 q4))
      refine ⟨⟨t + 1, hlt, by go_num, ?_, ?_, ?_⟩, by simp [intOf]; omega⟩
      · rw [rp_more, vB_append]; exact Q1.out
      · intro g e
        rcases Q3.out with q | q
        · exact HF.out g (q ▸ e)
        · rw [q] at e
          simp only [Option.some.injEq] at e
          have := B2.out.size
          omega
      · exact B2.out.grown Q2.out B2.out.size HF.out
    · obtain rfl : t = n := by omega
      go_wp2
      go_ret
      exact ⟨_, rfl, hO, hF, hb⟩

end Go.Proofs.YtkgfaioinajkjaaDoor
