/-
  The document's taken: the state behind one more piece.
-/
import Derived.Test.YtfdgdmehgbmnkaaDoorRTurn
namespace Go.Proofs.YtfdgdmehgbmnkaaDoor
open Go Go.RowKit
open Sha

theorem word_lit (b : List (BitVec 8)) (g n cap k : Nat) (m : Int) (hm : m = (k : Int)) (hn : b.length = n) (hk : k + 4 ≤ n) (hlen : n < 1152921504606846976) (w : World) (hr : w.rangeAt g 0 (vB b)) :
    Calls Tryd.prog 98 #[.slice (some ⟨g, 0, none⟩) n cap, .int .i64 m] w fun e w' => e = .returned (.int .u32 (u (wd (b.getD k 0) (b.getD (k + 1) 0) (b.getD (k + 2) 0) (b.getD (k + 3) 0)))) ∧ ∃ m, w' = w.drewN m := by
  subst hm; exact word_any b g n cap k hn hk hlen w hr
theorem word_y (y : BitVec 32) (b : List (BitVec 8)) (g n cap k : Nat) (m : Int) (hm : m = (k : Int)) (hy : y = wd (b.getD k 0) (b.getD (k + 1) 0) (b.getD (k + 2) 0) (b.getD (k + 3) 0)) (hn : b.length = n) (hk : k + 4 ≤ n) (hlen : n < 1152921504606846976) (w : World) (hr : w.rangeAt g 0 (vB b)) :
    Calls Tryd.prog 98 #[.slice (some ⟨g, 0, none⟩) n cap, .int .i64 m] w fun e w' => e = .returned (.int .u32 (u y)) ∧ ∃ m, w' = w.drewN m := by
  rw [hy]; exact word_lit b g n cap k m hm hn hk hlen w hr
theorem part_getD (b : List (BitVec 8)) (k j : Nat) (h : j < 64) : ((b.drop k).take 64).getD j 0 = b.getD (k + j) 0 := by
  simp only [List.getD_eq_getElem?_getD, List.getElem?_take_of_lt h, List.getElem?_drop]
theorem part_word (b : List (BitVec 8)) (k i : Nat) (h : i < 16) : word ((b.drop k).take 64) i = wd (b.getD (k + 4 * i) 0) (b.getD (k + 4 * i + 1) 0) (b.getD (k + 4 * i + 2) 0) (b.getD (k + 4 * i + 3) 0) := by
  unfold word
  rw [part_getD _ _ _ (by omega), part_getD _ _ _ (by omega), part_getD _ _ _ (by omega), part_getD _ _ _ (by omega)]
  simp only [Nat.add_assoc]
theorem words_fill64 (p : List (BitVec 8)) (k : Nat) (h : k < 16) : (words p k ++ List.replicate (64 - k) 0#32).set k (word p k) = words p (k + 1) ++ List.replicate (64 - (k + 1)) 0#32 := by
  rw [show 64 - k = (64 - (k + 1)) + 1 by omega, List.replicate_succ, words_succ]
  rw [List.set_append_right _ _ (by simp [words_length])]
  simp [words_length]
theorem range_drewN {w : World} {b o : Nat} {cs : List Value} (h : w.rangeAt b o cs) (n : Nat) : (w.drewN n).rangeAt b o cs := h

theorem add_swap (r s : St) : r.add s = s.add r := by
  unfold St.add
  simp only [BitVec.add_comm]
/-- The first t words added. -/
def addk (r s : St) (t : Nat) : List (BitVec 32) := (r.add s).list.take t ++ r.list.drop t
theorem addk_length (r s : St) (t : Nat) (h : t ≤ 8) : (addk r s t).length = 8 := by
  unfold addk; rw [List.length_append, List.length_take, List.length_drop]; simp [St.list]; omega
theorem addk_get (r s : St) (t : Nat) (h : t < 8) : (addk r s t).getD t 0 = r.list.getD t 0 := by
  have : t = 0 ∨ t = 1 ∨ t = 2 ∨ t = 3 ∨ t = 4 ∨ t = 5 ∨ t = 6 ∨ t = 7 := by omega
  rcases this with rfl | rfl | rfl | rfl | rfl | rfl | rfl | rfl <;> rfl
theorem addk_step (r s : St) (t : Nat) (h : t < 8) : (addk r s t).set t (r.list.getD t 0 + s.list.getD t 0) = addk r s (t + 1) := by
  have : t = 0 ∨ t = 1 ∨ t = 2 ∨ t = 3 ∨ t = 4 ∨ t = 5 ∨ t = 6 ∨ t = 7 := by omega
  rcases this with rfl | rfl | rfl | rfl | rfl | rfl | rfl | rfl <;> rfl

set_option maxRecDepth 100000 in
set_option maxHeartbeats 2000000 in
theorem taken_any (s : St) (b : List (BitVec 8)) (g n cap k : Nat) (hn : b.length = n) (hk : k + 64 ≤ n) (hlen : n < 1152921504606846976) (w : World) (hr : w.rangeAt g 0 (vB b)) (hK : Tab w 1) :
    Calls Tryd.prog 88 #[.agg (vW s.list).toArray, .slice (some ⟨g, 0, none⟩) n cap, .int .i64 (k : Int)] w fun e w' => e = .returned (.agg (vW (comp s (words ((b.drop k).take 64) 16)).list).toArray) ∧ Below w.heap.size w w' := by
  obtain ⟨p, hp⟩ : ∃ p, p = (b.drop k).take 64 := ⟨_, rfl⟩
  have HW : Hid (∀ i, i < 16 → word p i = wd (b.getD (k + 4 * i) 0) (b.getD (k + 4 * i + 1) 0) (b.getD (k + 4 * i + 2) 0) (b.getD (k + 4 * i + 3) 0)) := by rw [hp]; exact fun i hi => part_word b k i hi
  rw [← hp]
  clear hp
  obtain ⟨q, hq⟩ : ∃ q, q = words p 16 := ⟨_, rfl⟩
  have HQ : Hid (q = words p 16) := hq
  have HQL : Hid (q.length = 16) := by show _ = _; rw [hq, words_length]
  rw [← hq]
  clear hq
  have HR : Hid (w.rangeAt g 0 (vB b)) := hr
  clear hr
  go_enter Tryd.func88, Tryd.ntmps88
  go_wp2
  go_loopw [8] (fun i wr => ∃ t : Nat, t ≤ 16 ∧ i = .int .i64 t ∧ Below w.heap.size w wr ∧ wr.heap.size = w.heap.size + 3 ∧ Row wr w.heap.size (vW s.list) 142 ∧
      Row wr (w.heap.size + 1) (vW (List.replicate 8 0#32)) 142 ∧ Row wr (w.heap.size + 1 + 1) (vW (words p t ++ List.replicate (64 - t) 0#32)) 159)
    (fun i _ => 16 - (intOf i).toNat)
  case atStart =>
    refine ⟨0, by omega, rfl, ((((Below.refl _ _).alloc (Nat.le_refl _) _).alloc (by simp) _).alloc (by simp; omega) _), by simp, ((Row.new w (vW s.list) 142).alloc _).alloc _, ?_, ?_⟩
    · exact (Row.new' (by simp) rfl).alloc _
    · exact Row.new' (by simp) rfl
  case round =>
    obtain ⟨t, ht, rfl, hb, hz, h0, h1, h2⟩ := hrel
    by_cases hlt : t < 16
    · have g4 := h2.cell t _ (vW_get _ t (by simp [words_length]; omega))
      have g5 := h2.thaw t
      obtain ⟨y, hy⟩ : ∃ y, y = word p t := ⟨_, rfl⟩
      have HY : Hid (y = word p t) := hy
      have hw : Hid (y = wd (b.getD (k + 4 * t) 0) (b.getD (k + 4 * t + 1) 0) (b.getD (k + 4 * t + 2) 0) (b.getD (k + 4 * t + 3) 0)) := by show _ = _; rw [hy]; exact HW.out t hlt
      clear hy
      have hra := range_below HR.out hb (Nat.le_refl _)
      have HRA : Hid _ := hra
      clear hra
      generalize (words p t ++ List.replicate (64 - t) 0#32).getD t 0 = x4 at g4
      go_wp2_with (go_at_call 98; refine (word_y y b g n cap (k + 4 * t) _ (by omega) hw.out hn (by omega) hlen wr HRA.out).mono ?_; rintro e w' ⟨rfl, m, rfl⟩)
      rw [HY.out]
      refine ⟨⟨t + 1, by omega, by go_num, Below.setCell (below_drewN hb m) (p := ⟨w.heap.size + 1 + 1, t, none⟩) (by simp; omega) _, by simpa [World.setCell] using hz, (h0.drewN m).set_other _ _ _ (by omega), (h1.drewN m).set_other _ _ _ (by omega), ?_⟩, by simp [intOf]; omega⟩
      have := (h2.drewN m).set t (.int .u32 (u (word p t)))
      rwa [vW_set, words_fill64 p t hlt] at this
    · have e16 : (t : Int) = 16 := by omega
      have ht16 : t = 16 := by omega
      rw [ht16] at h2
      rw [e16]
      clear e16 ht16 ht hlt
      have h2' : Row wr (w.heap.size + 1 + 1) (vW (sch q 0 ++ List.replicate (48 - 0) 0#32)) 159 := by rw [HQ.out]; exact h2
      clear HW h2
      go_wp2
      go_loopw [9] (fun i w' => ∃ t : Nat, t ≤ 48 ∧ i = .int .i64 (16 + t) ∧ Below w.heap.size w w' ∧ w'.heap.size = w.heap.size + 3 ∧ Row w' w.heap.size (vW s.list) 142 ∧
          Row w' (w.heap.size + 1) (vW (List.replicate 8 0#32)) 142 ∧ Row w' (w.heap.size + 1 + 1) (vW (sch q t ++ List.replicate (48 - t) 0#32)) 159)
        (fun i _ => 64 - (intOf i).toNat)
      case atStart => exact ⟨0, by omega, rfl, hb, hz, h0, h1, h2'⟩
      case round =>
        clear hb hz h0 h1 h2'
        obtain ⟨t, ht, rfl, hb, hz, h0, h1, h2⟩ := hrel
        by_cases hlt : t < 48
        · have hd := fun (i : Nat) (hi : i < 64) => h2.cell i _ (vW_get _ i (by rw [List.length_append, sch_length, HQL.out, List.length_replicate]; omega))
          have e := nextw_front (sch q t) (List.replicate (48 - t) 0#32) (16 + t) (by rw [sch_length, HQL.out]) (by omega)
          have g2 := hd (16 + t - 2) (by omega)
          have g7 := hd (16 + t - 7) (by omega)
          have g15 := hd (16 + t - 15) (by omega)
          have g16 := hd t (by omega)
          have gk := hd (16 + t) (by omega)
          have gf := h2.thaw (16 + t)
          clear hd
          obtain ⟨y, hy⟩ : ∃ y, y = nextw (sch q t) (16 + t) := ⟨_, rfl⟩
          rw [← hy] at e
          unfold nextw at e
          rw [show 16 + t - 16 = t by omega] at e
          have HY : Hid (y = nextw (sch q t) (16 + t)) := hy
          have en : Hid _ := e
          clear e hy
          generalize (sch q t ++ List.replicate (48 - t) 0#32).getD (16 + t - 2) 0 = x2 at g2 en
          generalize (sch q t ++ List.replicate (48 - t) 0#32).getD (16 + t - 7) 0 = x7 at g7 en
          generalize (sch q t ++ List.replicate (48 - t) 0#32).getD (16 + t - 15) 0 = x15 at g15 en
          generalize (sch q t ++ List.replicate (48 - t) 0#32).getD t 0 = x16 at g16 en
          generalize (sch q t ++ List.replicate (48 - t) 0#32).getD (16 + t) 0 = xk at gk
          go_wp2_with (first | (go_at_call_of 99 (Value.int IntKind.u32 17); refine (turned_lit _ 17 17 rfl (by decide) (by decide) _).mono ?_; rintro e wr ⟨rfl, rfl⟩) | (go_at_call_of 99 (Value.int IntKind.u32 19); refine (turned_lit _ 19 19 rfl (by decide) (by decide) _).mono ?_; rintro e wr ⟨rfl, rfl⟩) | (go_at_call_of 99 (Value.int IntKind.u32 7); refine (turned_lit _ 7 7 rfl (by decide) (by decide) _).mono ?_; rintro e wr ⟨rfl, rfl⟩) | (go_at_call_of 99 (Value.int IntKind.u32 18); refine (turned_lit _ 18 18 rfl (by decide) (by decide) _).mono ?_; rintro e wr ⟨rfl, rfl⟩))
          have e10 : u x2 / (1024 : Int) = u (x2 >>> 10) := u_div x2 10 1024 (by decide)
          have e3 : u x15 / (8 : Int) = u (x15 >>> 3) := u_div x15 3 8 (by decide)
          rw [bits_xor (rotr x2 17) (rotr x2 19), e10, bits_xor (rotr x2 17 ^^^ rotr x2 19) (x2 >>> 10), bits_xor (rotr x15 7) (rotr x15 18), e3, bits_xor (rotr x15 7 ^^^ rotr x15 18) (x15 >>> 3)]
          obtain ⟨z1, hz1⟩ : ∃ z1, z1 = rotr x2 17 ^^^ rotr x2 19 ^^^ x2 >>> 10 := ⟨_, rfl⟩
          obtain ⟨z0, hz0⟩ : ∃ z0, z0 = rotr x15 7 ^^^ rotr x15 18 ^^^ x15 >>> 3 := ⟨_, rfl⟩
          have EY : Hid (z1 + x7 + z0 + x16 = y) := by show _ = _; rw [hz1, hz0]; exact en.out
          rw [← hz1, ← hz0]
          clear hz1 hz0 e10 e3 en
          have ha := mod_add
          refine wp_region_quiet_tail (C := fun w' => ∃ n, w' = wr.drewN n) 15 (by kernel_rfl) (by kernel_rfl) ⟨1, rfl⟩ ?_
          simp only [List.take_succ_cons, List.take_zero, List.drop_succ_cons, List.drop_zero]
          repeat (go_big_quiet_step (fail))
          refine wpQuiet_nil ?_
          intro w' hw'
          obtain ⟨nr, rfl⟩ := hw'
          go_wp2
          rw [EY.out]
          refine ⟨⟨t + 1, by omega, by go_num, Below.setCell (below_drewN hb nr) (p := ⟨w.heap.size + 1 + 1, 16 + t, none⟩) (by simp; omega) _, by simpa [World.setCell] using hz, (h0.drewN nr).set_other _ _ _ (by omega), (h1.drewN nr).set_other _ _ _ (by omega), ?_⟩, by simp [intOf]; omega⟩
          have := (h2.drewN nr).set (16 + t) (.int .u32 (u y))
          rw [vW_set, HY.out, sch_fill q HQL.out t hlt] at this
          rw [HY.out]
          exact this
        · have e64 : (16 : Int) + (t : Int) = 64 := by omega
          have ht48 : t = 48 := by omega
          rw [ht48] at h2
          obtain ⟨Q, hQ⟩ : ∃ Q, Q = sch q 48 := ⟨_, rfl⟩
          have HQ2 : Hid (Q = sch q 48) := hQ
          have HQl : Hid (Q.length = 64) := by show _ = _; rw [hQ, sch_length, HQL.out]
          have h2' : Row wr (w.heap.size + 1 + 1) (vW Q) 159 := by rw [hQ]; simpa using h2
          rw [e64]
          clear e64 ht48 ht hlt h2 hQ
          have i8 : (Tryd.prog.info? 142).map (·.size) = some (vW s.list).length := info_arr8
          have i8' : (Tryd.prog.info? 142).map (·.size) = some (vW s.list).toArray.size := info_arr8
          have T := Row.there (Row.new' (w := wr) (cs := vW (List.replicate 8 0#32)) (t := 142) rfl rfl) 0 (vW s.list).toArray.size (by exact Nat.le_refl 8)
          have HZ : Hid _ := hz
          clear hz
          go_wp2_with (first
            | (refine wpList_load_mid rfl 142 (.tmp 3) rfl w.heap.size 0 rfl (vW s.list) _ h0.all Tryd.underlying142 rfl i8 ?_; simp only [Act.put, List.setIfInBounds_toArray, List.set_cons_zero, List.set_cons_succ])
            | (refine wpList_store_mid rfl 142 (.tmp 12) (.tmp 72) rfl wr.heap.size 0 (vW s.list).toArray rfl rfl T i8' (all_oneCell_toArray (vW_one _)) ?_; simp only [Act.put]; (change wpList _ _ _ _ _ (World.setCells (wr.alloc (Obj.cells (vW (List.replicate 8 0#32)).toArray 142)) wr.heap.size 0 (vW s.list)))))
          obtain ⟨W3, hW3⟩ : ∃ W3, W3 = World.setCells (wr.alloc (Obj.cells (vW (List.replicate 8 0#32)).toArray 142)) wr.heap.size 0 (vW s.list) := ⟨_, rfl⟩
          have hB3 : Below w.heap.size w W3 := by rw [hW3]; exact below_setCells (hb.alloc (by rw [HZ.out]; omega) _) (by rw [HZ.out]; omega) _
          have k0 : Row W3 w.heap.size (vW s.list) 142 := by rw [hW3]; exact Row.setCells_other (Row.alloc h0 _) _ _ _ (by rw [HZ.out]; omega)
          have k1 : Row W3 (w.heap.size + 1) (vW (List.replicate 8 0#32)) 142 := by rw [hW3]; exact Row.setCells_other (Row.alloc h1 _) _ _ _ (by rw [HZ.out]; omega)
          have k2 : Row W3 (w.heap.size + 1 + 1) (vW Q) 159 := by rw [hW3]; exact Row.setCells_other (Row.alloc h2' _) _ _ _ (by rw [HZ.out]; omega)
          have k3 : Row W3 wr.heap.size (vW s.list) 142 := by rw [hW3]; exact Row.over (Row.new _ _ _) rfl
          have eW : World.setCells (wr.alloc (Obj.cells (vW (List.replicate 8 0#32)).toArray 142)) wr.heap.size 0 (vW s.list) = W3 := hW3.symm
          have hz' : w.heap.size + 1 + 1 < wr.heap.size := by rw [HZ.out]; omega
          rw [eW]
          clear hW3 eW hb h0 h1 h2' T i8 i8' HZ
          generalize wr.heap.size = b12 at *
          clear wr
          go_loopw [13] (fun i w' => ∃ (t : Nat) (r : St), t ≤ 64 ∧ i = .int .i64 t ∧ r = rounds Q s t ∧ Below w.heap.size w w' ∧ Row w' w.heap.size (vW s.list) 142 ∧
              Row w' (w.heap.size + 1) (vW (List.replicate 8 0#32)) 142 ∧ Row w' (w.heap.size + 1 + 1) (vW Q) 159 ∧ Row w' b12 (vW r.list) 142)
            (fun i _ => 64 - (intOf i).toNat)
          case atStart => exact ⟨0, s, by omega, rfl, rfl, hB3, k0, k1, k2, k3⟩
          case round =>
            clear hB3 k0 k1 k2 k3
            obtain ⟨t, r, ht, rfl, hr, hb, h0, h1, h2, h3⟩ := hrel
            have HR : Hid (r = rounds Q s t) := hr
            clear hr
            by_cases hlt : t < 64
            · have gk := (hK.below hb hK.lt) t hlt
              have gw := h2.cell t _ (vW_get Q t (by rw [HQl.out]; exact hlt))
              have hrk : Hid (rounds Q s (t + 1) = rnd (rounds Q s t) (K.getD t 0) (Q.getD t 0)) := rfl
              generalize K.getD t 0 = kk at gk hrk
              generalize Q.getD t 0 = ww at gw hrk
              have c0 := h3.cell 0 (.int .u32 (u r.a)) rfl
              have c1 := h3.cell 1 (.int .u32 (u r.b)) rfl
              have c2 := h3.cell 2 (.int .u32 (u r.c)) rfl
              have c3 := h3.cell 3 (.int .u32 (u r.d)) rfl
              have c4 := h3.cell 4 (.int .u32 (u r.e)) rfl
              have c5 := h3.cell 5 (.int .u32 (u r.f)) rfl
              have c6 := h3.cell 6 (.int .u32 (u r.g)) rfl
              have c7 := h3.cell 7 (.int .u32 (u r.h)) rfl
              have f0 := h3.thaw 0
              have f1 := h3.thaw 1
              have f2 := h3.thaw 2
              have f3 := h3.thaw 3
              have f4 := h3.thaw 4
              have f5 := h3.thaw 5
              have f6 := h3.thaw 6
              have f7 := h3.thaw 7
              go_wp2
              have hx := bits_xor
              have hn' := bits_and
              have ha := mod_add
              have hu := u_not'
              go_quiet (first | (go_at_call_of 99 (Value.int IntKind.u32 6); exact (turned_lit _ 6 6 rfl (by decide) (by decide) _).mono (fun _ _ h => ⟨h.1, _, h.2⟩)) | (go_at_call_of 99 (Value.int IntKind.u32 11); exact (turned_lit _ 11 11 rfl (by decide) (by decide) _).mono (fun _ _ h => ⟨h.1, _, h.2⟩)) | (go_at_call_of 99 (Value.int IntKind.u32 25); exact (turned_lit _ 25 25 rfl (by decide) (by decide) _).mono (fun _ _ h => ⟨h.1, _, h.2⟩)))
              go_wp2
              go_quiet (fail)
              go_wp2
              go_quiet (first | (go_at_call_of 99 (Value.int IntKind.u32 2); exact (turned_lit _ 2 2 rfl (by decide) (by decide) _).mono (fun _ _ h => ⟨h.1, _, h.2⟩)) | (go_at_call_of 99 (Value.int IntKind.u32 13); exact (turned_lit _ 13 13 rfl (by decide) (by decide) _).mono (fun _ _ h => ⟨h.1, _, h.2⟩)) | (go_at_call_of 99 (Value.int IntKind.u32 22); exact (turned_lit _ 22 22 rfl (by decide) (by decide) _).mono (fun _ _ h => ⟨h.1, _, h.2⟩)))
              go_wp2
              have er : rounds Q s (t + 1) = rnd r kk ww := by rw [HR.out]; exact hrk.out
              have ex : (rotr r.e 6 ^^^ rotr r.e 11 ^^^ rotr r.e 25) + r.h + (r.e &&& r.f ^^^ ~~~r.e &&& r.g) + kk + ww = rx r kk ww := by unfold rx; rw [BitVec.add_comm r.h]; rfl
              have ey : (rotr r.a 2 ^^^ rotr r.a 13 ^^^ rotr r.a 22) + (r.a &&& r.b ^^^ r.a &&& r.c ^^^ r.b &&& r.c) = ry r := rfl
              rw [ex, ey]
              refine ⟨⟨t + 1, rnd r kk ww, by omega, by go_num, er.symm, ?_, ?_, ?_, ?_, ?_⟩, by simp [intOf]; omega⟩
              · iterate 8 refine Below.setCell ?_ (by simp; omega) _
                exact below_drewN hb _
              · iterate 8 refine Row.set_other ?_ _ _ _ (by omega)
                exact h0.drewN _
              · iterate 8 refine Row.set_other ?_ _ _ _ (by omega)
                exact h1.drewN _
              · iterate 8 refine Row.set_other ?_ _ _ _ (by omega)
                exact h2.drewN _
              · exact ((((((((h3.drewN _).set 7 (.int .u32 (u r.g))).set 6 (.int .u32 (u r.f))).set 5 (.int .u32 (u r.e))).set 4 (.int .u32 (u (r.d + rx r kk ww)))).set 3 (.int .u32 (u r.c))).set 2 (.int .u32 (u r.b))).set 1 (.int .u32 (u r.a))).set 0 (.int .u32 (u (rx r kk ww + ry r)))
            · have e64 : (t : Int) = 64 := by omega
              have ht64 : t = 64 := by omega
              have HC : Hid (comp s q = r.add s) := by show _ = _; rw [add_swap, HR.out, ht64, HQ2.out]; rfl
              rw [e64]
              have h3' : Row wr b12 (vW (addk r s 0)) 142 := h3
              clear e64 ht64 ht hlt HR h2 h3 HQ2 HQl HQ HQL
              go_wp2
              go_loopw [16] (fun i w' => ∃ t : Nat, t ≤ 8 ∧ i = .int .i64 t ∧ Below w.heap.size w w' ∧ Row w' w.heap.size (vW s.list) 142 ∧ Row w' (w.heap.size + 1) (vW (List.replicate 8 0#32)) 142 ∧ Row w' b12 (vW (addk r s t)) 142)
                (fun i _ => 8 - (intOf i).toNat)
              case atStart => exact ⟨0, by omega, rfl, hb, h0, h1, h3'⟩
              case round =>
                clear hb h0 h1 h3'
                obtain ⟨t, ht, rfl, hb, h0, h1, h3⟩ := hrel
                by_cases hlt : t < 8
                · have g0 := h3.cell t _ (vW_get (addk r s t) t (by rw [addk_length r s t ht]; exact hlt))
                  have f0 := h3.thaw t
                  have g1 := h0.cell t _ (vW_get s.list t (by exact hlt))
                  have hst := addk_step r s t hlt
                  rw [addk_get r s t hlt] at g0
                  generalize r.list.getD t 0 = x0 at g0 hst
                  generalize s.list.getD t 0 = x1 at g1 hst
                  have HST : Hid _ := hst
                  clear hst
                  go_wp2
                  have ha := mod_add
                  refine wp_region_quiet_tail (C := fun w' => ∃ n, w' = wr.drewN n) 9 (by kernel_rfl) (by kernel_rfl) ⟨1, rfl⟩ ?_
                  simp only [List.take_succ_cons, List.take_zero, List.drop_succ_cons, List.drop_zero]
                  repeat (go_big_quiet_step (fail))
                  refine wpQuiet_nil ?_
                  intro w' hw'
                  obtain ⟨nr, rfl⟩ := hw'
                  go_wp2
                  refine ⟨⟨t + 1, by omega, by go_num, Below.setCell (below_drewN hb nr) (p := ⟨b12, t, none⟩) (by simp; omega) _, (h0.drewN nr).set_other _ _ _ (by omega), (h1.drewN nr).set_other _ _ _ (by omega), ?_⟩, by simp [intOf]; omega⟩
                  have := (h3.drewN nr).set t (.int .u32 (u (x0 + x1)))
                  rw [vW_set, HST.out] at this
                  exact this
                · have e8 : t = 8 := by omega
                  rw [e8] at h3
                  obtain ⟨cs, hcs⟩ : ∃ cs, cs = vW (r.add s).list := ⟨_, rfl⟩
                  have hl : cs.length = 8 := by rw [hcs]; rfl
                  have h3' : Row wr b12 cs 142 := by rw [hcs]; exact h3
                  have i8 : (Tryd.prog.info? 142).map (·.size) = some cs.length := by rw [info_arr8, hl]
                  have i8' : (Tryd.prog.info? 142).map (·.size) = some cs.toArray.size := by rw [info_arr8]; simp [hl]
                  have hone := all_oneCell_toArray (show ∀ v ∈ cs, v.oneCell' = true by rw [hcs]; exact vW_one _)
                  have T := h1.there 0 cs.toArray.size (by simp [hl, vW_length])
                  have fin := h1.over (vs := cs) (by rw [hl]; rfl)
                  have hbf := below_setCells hb (b := w.heap.size + 1) (o := 0) (by omega) cs
                  have HE : Hid (vW (comp s q).list = cs) := by show _ = _; rw [HC.out, hcs]
                  have HL : Hid (cs.length = 8) := hl
                  clear h3 e8 hcs hl HC ht hb hK hn hk hlen
                  go_wp2_with (first
                    | (refine wpList_load_mid rfl 142 (.tmp 12) rfl b12 0 rfl cs _ h3'.all Tryd.underlying142 rfl i8 ?_; simp only [Act.put, List.setIfInBounds_toArray, List.set_cons_zero, List.set_cons_succ])
                    | (refine wpList_store_mid rfl 142 (.tmp 6) (.tmp 183) rfl (w.heap.size + 1) 0 cs.toArray rfl rfl T i8' hone ?_; simp only [Act.put]))
                  exact bodyPost_ret (results_row Tryd.results88 _ _ (w.heap.size + 1) 142 cs rfl fin Tryd.underlying142 info_arr8 HL.out) rfl ⟨by rw [HE.out], hbf⟩

end Go.Proofs.YtfdgdmehgbmnkaaDoor
