/-
  takeIn: the state behind one more piece.
-/
import Derived.Test.YtfdgdmehgbmnkaaDoorSpread
namespace Go.Proofs.YtfdgdmehgbmnkaaDoor
open Go Go.RowKit
open Sha

/-- The table of constants lies in block g. -/
def Tab (w : World) (g : Nat) : Prop := ∀ i, i < 64 → w.cell? ⟨g, i, none⟩ = some (.int .u32 (u (K.getD i 0)))
theorem Tab.lt {w : World} {g : Nat} (h : Tab w g) : g < w.heap.size := World.block_lt_of_cell? w _ (h 0 (by omega))
theorem Tab.below {B : Nat} {w w' : World} {g : Nat} (h : Tab w g) (k : Below B w w') (hB : g < B) : Tab w' g := fun i hi => (k.cell (p := ⟨g, i, none⟩) hB).trans (h i hi)

theorem info_arr8 : (Tryd.prog.info? 142).map (·.size) = some 8 := by kernel_rfl

set_option maxRecDepth 100000 in
set_option maxHeartbeats 1000000 in
theorem takeIn_any (s : St) (p : List (BitVec 32)) (hp : p.length = 16) (w : World) (hK : Tab w 3) :
    Calls Tryd.prog 95 #[.agg (vW s.list).toArray, .agg (vW p).toArray] w fun e w' => e = .returned (.agg (vW (comp s p).list).toArray) ∧ Below w.heap.size w w' := by
  obtain ⟨q, hq⟩ : ∃ q, q = sch p 48 := ⟨_, rfl⟩
  have HQ : Hid (q = sch p 48) := hq
  have hql : (vW q).length = 64 := by rw [hq, vW_length, sch_length, hp]
  have HQL : Hid ((vW q).length = 64) := hql
  have hi : (Tryd.prog.info? 155).map (·.size) = some (vW p).length := by rw [info_arr16, vW_length, hp]
  have hi64 : (Tryd.prog.info? 159).map (·.size) = some (vW q).toArray.size := by rw [info_arr64]; simp [hql]
  have ho := all_oneCell_toArray (vW_one q)
  clear hq hql
  go_enter Tryd.func95, Tryd.ntmps95
  go_wp2_with (first
    | (refine wpList_load_mid rfl 155 (.tmp 3) rfl (w.heap.size + 1) 0 rfl (vW p) _ ?_ Tryd.underlying155 rfl hi ?_; (exact Row.all (Row.alloc (Row.new' (by simp) rfl) _)); simp only [Act.put, List.setIfInBounds_toArray, List.set_cons_zero, List.set_cons_succ])
    | (go_at_call 100; refine (spread_q p q hp HQ.out _).mono ?_; rintro e w1 ⟨rfl, hb1⟩)
    | (refine wpList_store_mid rfl 159 (.tmp 5) (.tmp 18) rfl w1.heap.size 0 (vW q).toArray rfl rfl ?_ hi64 ho ?_; (exact Row.there (Row.new' (cs := vW (List.replicate 64 0#32)) rfl rfl) 0 _ (by simp [HQL.out, vW_length])); simp only [Act.put]))
  have hz1 : w.heap.size + 3 ≤ w1.heap.size := by have := hb1.size; simpa using this
  obtain ⟨W2, hW2⟩ : ∃ W2, W2 = World.setCells (w1.alloc (Obj.cells (vW (List.replicate 64 0#32)).toArray 159)) w1.heap.size 0 (vW q) := ⟨_, rfl⟩
  have hB1 : Below w.heap.size w w1 := ((((Below.refl _ _).alloc (Nat.le_refl _) _).alloc (by simp) _).alloc (by simp; omega) _).trans (hb1.mono (by simp; omega))
  have hB : Below w.heap.size w W2 := by rw [hW2]; exact below_setCells (hB1.alloc (by omega) _) (by omega) _
  have r0 : Row W2 w.heap.size (vW s.list) 142 := by
    rw [hW2]; exact Row.setCells_other (Row.alloc (Row.below (Row.alloc (Row.alloc (Row.new w _ _) _) _) hb1 (by simp; omega)) _) _ _ _ (by omega)
  have r2 : Row W2 (w.heap.size + 1 + 1) (vW (List.replicate 8 0#32)) 142 := by
    rw [hW2]; exact Row.setCells_other (Row.alloc (Row.below (Row.new' (by simp) rfl) hb1 (by simp)) _) _ _ _ (by omega)
  have r5 : Row W2 w1.heap.size (vW q) 159 := by
    rw [hW2]; exact Row.over (Row.new _ _ _) (by rw [HQL.out]; simp [vW_length])
  have hT : Tab W2 3 := hK.below hB hK.lt
  have eW : World.setCells (w1.alloc (Obj.cells (vW (List.replicate 64 0#32)).toArray 159)) w1.heap.size 0 (vW q) = W2 := hW2.symm
  have HB : Hid (Below w.heap.size w W2) := hB
  have HZ : Hid (w.heap.size + 3 ≤ w1.heap.size) := hz1
  clear hW2 hB hB1 hb1 hz1
  change Code.wp _ _ _ _ (World.setCells (w1.alloc (Obj.cells (vW (List.replicate 64 0#32)).toArray 159)) w1.heap.size 0 (vW q))
  rw [eW]
  clear eW
  generalize w1.heap.size = b5 at *
  clear w1
  have c0 := r0.cell 0 (.int .u32 (u s.a)) rfl
  have c1 := r0.cell 1 (.int .u32 (u s.b)) rfl
  have c2 := r0.cell 2 (.int .u32 (u s.c)) rfl
  have c3 := r0.cell 3 (.int .u32 (u s.d)) rfl
  have c4 := r0.cell 4 (.int .u32 (u s.e)) rfl
  have c5 := r0.cell 5 (.int .u32 (u s.f)) rfl
  have c6 := r0.cell 6 (.int .u32 (u s.g)) rfl
  have c7 := r0.cell 7 (.int .u32 (u s.h)) rfl
  go_quiet (fail)
  go_wp2
  go_quiet (fail)
  go_wp2
  go_loopw [35, 6, 7, 8, 9, 10, 11, 12, 13] (fun i a b c d e f g h wr => ∃ (k : Nat) (r : St), k ≤ 64 ∧ i = .int .i64 k ∧ r = rounds q s k ∧ (∃ n, wr = W2.drewN n) ∧
      a = .int .u32 (u r.a) ∧ b = .int .u32 (u r.b) ∧ c = .int .u32 (u r.c) ∧ d = .int .u32 (u r.d) ∧ e = .int .u32 (u r.e) ∧ f = .int .u32 (u r.f) ∧ g = .int .u32 (u r.g) ∧ h = .int .u32 (u r.h))
    (fun i _ _ _ _ _ _ _ _ _ => 64 - (intOf i).toNat)
  case atStart => exact ⟨0, s, by omega, rfl, rfl, ⟨_, World.drewN_drewN _ _ _⟩, rfl, rfl, rfl, rfl, rfl, rfl, rfl, rfl⟩
  case round =>
    obtain ⟨k, r, hk, rfl, hr, ⟨n, rfl⟩, rfl, rfl, rfl, rfl, rfl, rfl, rfl, rfl⟩ := hrel
    have HR : Hid (r = rounds q s k) := hr
    clear hr
    by_cases hlt : k < 64
    · have gk := hT k hlt
      have gw := r5.cell k _ (vW_get q k (by have := HQL.out; rw [vW_length] at this; omega))
      have hrk : Hid (rounds q s (k + 1) = rnd (rounds q s k) (K.getD k 0) (q.getD k 0)) := rfl
      generalize K.getD k 0 = kk at gk hrk
      generalize q.getD k 0 = ww at gw hrk
      go_wp2
      have hx := bits_xor
      have hn := bits_and
      have ha := mod_add
      have hu := u_not'
      go_quiet (first | (go_at_call_of 101 (Value.int IntKind.i64 6); exact (turn_lit _ 6 6 rfl (by decide) (by decide) _).mono (fun _ _ h => ⟨h.1, _, h.2⟩)) | (go_at_call_of 101 (Value.int IntKind.i64 11); exact (turn_lit _ 11 11 rfl (by decide) (by decide) _).mono (fun _ _ h => ⟨h.1, _, h.2⟩)) | (go_at_call_of 101 (Value.int IntKind.i64 25); exact (turn_lit _ 25 25 rfl (by decide) (by decide) _).mono (fun _ _ h => ⟨h.1, _, h.2⟩)))
      go_wp2_with (first | (go_at_call_of 101 (Value.int IntKind.i64 2); refine (turn_lit _ 2 2 rfl (by decide) (by decide) _).mono ?_; rintro e w' ⟨rfl, rfl⟩) | (go_at_call_of 101 (Value.int IntKind.i64 13); refine (turn_lit _ 13 13 rfl (by decide) (by decide) _).mono ?_; rintro e w' ⟨rfl, rfl⟩) | (go_at_call_of 101 (Value.int IntKind.i64 22); refine (turn_lit _ 22 22 rfl (by decide) (by decide) _).mono ?_; rintro e w' ⟨rfl, rfl⟩))
      have er : rounds q s (k + 1) = rnd r kk ww := by rw [HR.out]; exact hrk.out
      refine ⟨⟨k + 1, rnd r kk ww, by omega, by go_num, er.symm, ⟨_, rfl⟩, rfl, rfl, rfl, rfl, rfl, rfl, rfl, rfl⟩, by simp [intOf]; omega⟩
    · obtain rfl : k = 64 := by omega
      have c8 := r2.cell 0 _ rfl
      have t0 := r2.thaw 0
      have c9 := r2.cell 1 _ rfl
      have t1 := r2.thaw 1
      have c10 := r2.cell 2 _ rfl
      have t2 := r2.thaw 2
      have c11 := r2.cell 3 _ rfl
      have t3 := r2.thaw 3
      have c12 := r2.cell 4 _ rfl
      have t4 := r2.thaw 4
      have c13 := r2.cell 5 _ rfl
      have t5 := r2.thaw 5
      have c14 := r2.cell 6 _ rfl
      have t6 := r2.thaw 6
      have c15 := r2.cell 7 _ rfl
      have t7 := r2.thaw 7
      have ec : Hid (comp s p = s.add r) := by rw [HR.out, HQ.out]; rfl
      go_wp2
      simp only [mod_add]
      have fin := (r2.drewN n).over (vs := vW (s.add r).list) rfl
      have hbf := below_setCells (below_drewN HB.out n) (b := w.heap.size + 1 + 1) (o := 0) (by omega) (vW (s.add r).list)
      exact bodyPost_ret (w := World.setCells (W2.drewN n) (w.heap.size + 1 + 1) 0 (vW (s.add r).list)) (results_row Tryd.results95 _ _ (w.heap.size + 1 + 1) 142 (vW (s.add r).list) rfl fin Tryd.underlying142 info_arr8 rfl) rfl ⟨by rw [ec.out], hbf⟩

end Go.Proofs.YtfdgdmehgbmnkaaDoor
