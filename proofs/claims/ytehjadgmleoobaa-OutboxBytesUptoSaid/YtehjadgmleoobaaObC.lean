/-
  the outbox: a book: New, Put, Leaf, Len.
-/
import Derived.Test.YtehjadgmleoobaaObB
import Derived.Test.YtehjadgmleoobaaLws
namespace Go.Proofs.Ytehjadgmleoobaa
open Go Go.RowKit
open Sha

theorem bl_ne {w : World} {u v : Value} {d : List (BitVec 8)} {e : TypeId} {s n : Nat} {xs : List Value} (h : Bw w u d) (k : Lw w e s v n xs) (he : e ≠ 5) : ∀ g, u.ownBlock = some g → some g ≠ v.ownBlock := fun g e1 e2 => by
  rcases h.2 with ⟨h1, _⟩ | ⟨g', cap, cur, hv, _, hh, _⟩
  · rw [h1] at e1; cases e1
  · rw [hv] at e1
    obtain rfl : g' = g := by simpa [Value.ownBlock] using e1
    rcases k.2 with ⟨k1, _⟩ | ⟨g2, cap2, cur2, kv, _, kh, _⟩
    · rw [k1] at e2; cases e2
    · rw [kv] at e2
      obtain rfl : g' = g2 := by simpa [Value.ownBlock] using e2
      have := hh.symm.trans kh
      simp only [Option.some.injEq, Obj.cells.injEq] at this
      exact he this.2.1.symm
/-- A book that was made behind w0: its leaves' bytes. -/
structure Bk (w0 w : World) (B : Nat) (v : Value) (ts : List (List (BitVec 8))) : Prop where
  row : Row w B [v] 53
  own : ∃ cs, Lw w 29 1 v ts.length cs ∧ ∀ (i : Nat) (d : List (BitVec 8)), ts[i]? = some d → ∃ u, cs[i]? = some u ∧ Bw w u d
  b0 : w0.heap.size ≤ B
  v0 : ∀ g, v.ownBlock = some g → w0.heap.size ≤ g
  be : Below w0.heap.size w0 w
theorem Bk.keep {w0 w w' : World} {B : Nat} {v : Value} {ts : List (List (BitVec 8))} (h : Bk w0 w B v ts) (k : Below w.heap.size w w') : Bk w0 w' B v ts := by
  obtain ⟨cs, h1, h2⟩ := h.own
  exact ⟨Row.below h.row k h.row.lt, ⟨cs, Lw.be h1 k, fun i d hd => by obtain ⟨u, q1, q2⟩ := h2 i d hd; exact ⟨u, q1, Bw.be q2 k⟩⟩, h.b0, h.v0, h.be.trans (k.mono h.be.size)⟩
theorem Bk.form {w0 w : World} {B : Nat} {v : Value} {ts : List (List (BitVec 8))} (h : Bk w0 w B v ts) : ∃ A cap, v = .slice A ts.length cap := by
  obtain ⟨cs, h1, _⟩ := h.own
  obtain ⟨A, cap, e, _⟩ := Lw.form h1
  exact ⟨A, cap, e⟩
set_option maxRecDepth 100000 in
set_option maxHeartbeats 4000000 in
theorem new_any (w : World) : Calls Try.prog 13 #[] w fun e w' => e = .returned (.pointer (some ⟨w.heap.size, 0, none⟩)) ∧ Bk w w' w.heap.size (.slice none 0 0) [] := by
  go_enter Try.func13, Try.ntmps13
  go_wp2_with (refine wpList_boxG 53 rfl (.tmp 1) rfl [.slice none 0 0] rfl ?_; intro X q1 q2 q3; have R1 : Hid (Row X w.heap.size [.slice none 0 0] 53) := q1; have B1 : Hid (Below w.heap.size w X) := q2; clear q1 q2 q3; simp only [Act.put, List.setIfInBounds_toArray, List.set_cons_zero, List.set_cons_succ])
  go_ret
  exact ⟨rfl, R1.out, ⟨[], Lw.nil _ _ _, fun i d h => by simp at h⟩, Nat.le_refl _, (fun g e => by cases e), B1.out⟩
set_option maxRecDepth 100000 in
set_option maxHeartbeats 4000000 in
theorem len_any (A : Option Addr) (n cap : Nat) (w : World) : Calls Try.prog 16 #[.slice A n cap] w fun e w' => e = .returned (.int .i64 (n : Int)) ∧ w' = w := by
  go_enter Try.func16, Try.ntmps16
  go_wp2
  go_ret
  exact ⟨rfl, rfl⟩
theorem info_sl : ∃ ie z, Try.prog.info? 29 = some ie ∧ ie.zero = some z ∧ ie.size = 1 ∧ ie.bytes = 24 ∧ z.cells.size = 1 := by
  have i1 : (Try.prog.info? 29).map (fun i => (i.zero, i.size, i.bytes)) = some (some (.slice none 0 0), 1, 24) := by kernel_rfl
  cases hi : Try.prog.info? 29 with
  | none => rw [hi] at i1; cases i1
  | some ie =>
    rw [hi] at i1
    simp only [Option.map_some, Option.some.injEq, Prod.mk.injEq] at i1
    exact ⟨ie, _, rfl, i1.1, i1.2.1, i1.2.2, rfl⟩
theorem info_sl4 : ∃ ie z, Try.prog.info? 29 = some ie ∧ ie.zero = some z ∧ ie.size = 1 ∧ z.cells.size = 1 := by
  obtain ⟨ie, z, h1, h2, h3, _, h4⟩ := info_sl
  exact ⟨ie, z, h1, h2, h3, h4⟩
theorem info_tx : (Try.prog.info? 51).map (·.size) = some 1 := by kernel_rfl
set_option maxRecDepth 100000 in
set_option maxHeartbeats 4000000 in
theorem put_in (w0 : World) (B : Nat) (v : Value) (ts : List (List (BitVec 8))) (hts : ts.length ≤ 1000000) (en tk : Int) (rc : List (BitVec 8)) (am : List Nat) (hrc : rc.length = 20) (ham : am.length = 4) (hq4 : ∀ x ∈ am, x < 18446744073709551616) (hm : may (ts.length : Int) en tk am = true) (L : List Value) (hL : L = lf (ts.length : Int) en tk rc am) (w : World) (hb : Bk w0 w B v ts) :
    Calls Try.prog 14 #[.pointer (some ⟨B, 0, none⟩), .agg L.toArray] w fun e w' => e = .returned (.int .i64 0) ∧ ∃ v', Bk w0 w' B v' (ts ++ [lfb (ts.length : Int) en tk rc am]) ∧ Gro (fun g => g = B ∨ v.ownBlock = some g) w w' ∧ (v'.ownBlock = v.ownBlock ∨ ∃ g, v'.ownBlock = some g ∧ w.heap.size ≤ g) := by
  obtain ⟨A, cap, hv⟩ := hb.form
  subst hv
  obtain ⟨N, hN⟩ : ∃ N, N = ts.length := ⟨_, rfl⟩
  obtain ⟨d, hd⟩ : ∃ d, d = lfb (ts.length : Int) en tk rc am := ⟨_, rfl⟩
  have HBY : Hid (∀ X, Calls Try.prog 5 #[.agg L.toArray] X fun e w' => ∃ A n cap, e = .returned (.tuple #[.slice A n cap, .int .i64 0]) ∧ Bw w' (.slice A n cap) d ∧ Below X.heap.size X w') := fun X => by
    refine (bytes_ok _ en tk rc am hrc ham hq4 hm L hL X).mono ?_
    rintro e w' ⟨A, n, cap, _, q1, q2, _, q3⟩
    exact ⟨A, n, cap, q1, by rw [hd]; exact q2, q3⟩
  have HI : Hid ((Try.prog.info? 39).map (·.size) = some L.length) := by rw [hL]; exact info_lf hrc ham
  have cL : L[0]? = some (.int .i64 (N : Int)) := by rw [hL, hN]; rfl
  have HCL : Hid (L[0]? = some (.int .i64 (N : Int))) := cL
  have HBK : Hid (Bk w0 w B (.slice A N cap) ts) := by rw [hN]; exact hb
  have HN : Hid (N = ts.length) := hN
  have HNM : Hid (N ≤ 1000000) := by rw [hN]; exact hts
  rw [← hd, ← hN]
  clear hL hm hq4 hrc ham hb cL hN hd hts
  go_enter Try.func14, Try.ntmps14
  go_upto_region 4 with (first
    | (refine wpList_boxG 39 rfl (.tmp 1) rfl L rfl ?_; intro X1 q1 q2 q3; have R1 : Hid (Row X1 w.heap.size L 39) := q1; have B1 : Hid (Below w.heap.size w X1) := q2; clear q1 q2 q3; simp only [Act.put, List.setIfInBounds_toArray, List.set_cons_zero, List.set_cons_succ])
    | (refine wpList_load_w rfl 39 (.tmp 3) rfl w.heap.size 0 rfl L _ R1.out.all Try.underlying39 rfl HI.out ?_; simp only [Act.put, List.setIfInBounds_toArray, List.set_cons_zero, List.set_cons_succ])
    | (go_at_call 5; refine Calls.mono (HBY.out X1) ?_; rintro e X2 ⟨A2, n2, c2, rfl, q1, q2⟩; have W2 : Hid (Bw X2 (.slice A2 n2 c2) d) := q1; have B2 : Hid (Below w.heap.size w X2) := B1.out.trans (q2.mono B1.out.size); have R2 : Hid (Row X2 w.heap.size L 39) := Row.below R1.out q2 R1.out.lt; clear q1 q2))
  have K2 : Hid (Bk w0 X2 B (.slice A N cap) ts) := HBK.out.keep B2.out
  have c0 := R2.out.cell 0 _ HCL.out
  have cB := K2.out.row.cell 0 _ rfl
  have HLN : Hid (∀ X, Calls Try.prog 16 #[.slice A N cap] X fun e w' => e = .returned (.int .i64 (N : Int)) ∧ w' = X) := fun X => len_any A N cap X
  have HNN : Hid (N < 1099511627776) := by have := HNM.out; show _ < _; omega
  go_wp2_with fail
  go_quiet (first | (go_at_call 16; exact (HLN.out (X2.drewN _)).mono (fun _ _ h => ⟨h.1, _, h.2⟩)))
  generalize hX3 : X2.drewN _ = X3
  have D3 : Below X2.heap.size X2 X3 := by rw [← hX3]; exact ⟨rfl, rfl, rfl, Nat.le_refl _, fun _ _ => rfl⟩
  have W3 : Hid (Bw X3 (.slice A2 n2 c2) d) := Bw.be W2.out D3
  have B3 : Hid (Below w.heap.size w X3) := B2.out.trans (D3.mono B2.out.size)
  have K3 : Hid (Bk w0 X3 B (.slice A N cap) ts) := K2.out.keep D3
  have cB3 := K3.out.row.cell 0 _ rfl
  clear hX3 D3 W2 B2 K2 c0 cB R2 HLN
  obtain ⟨cs, HLW', hcs'⟩ := K3.out.own
  have HLW : Hid (Lw X3 29 1 (.slice A N cap) N cs) := by have := HLW'; rwa [← HN.out] at this
  have HCS : Hid (∀ (i : Nat) (d : List (BitVec 8)), ts[i]? = some d → ∃ u, cs[i]? = some u ∧ Bw X3 u d) := hcs'
  clear HLW' hcs'
  go_wp2_with (first
    | (refine wpList_buildOne 51 29 Try.underlying51 info_sl4 rfl (.tmp 32) rfl (.slice A2 n2 c2) rfl rfl ?_; intro X4 q1 q2 q3; have R4 : Hid (Row X4 X3.heap.size [.slice A2 n2 c2] 29) := q1; have D4 : Hid (Below X3.heap.size X3 X4) := q2; clear q1 q2 q3; simp only [Act.put, List.setIfInBounds_toArray, List.set_cons_zero, List.set_cons_succ])
    | (refine wpList_appL 51 29 1 24 Try.underlying51 info_sl (by decide) (by decide) rfl (.tmp 31) (.tmp 33) rfl (.slice A N cap) N cs [.slice A2 n2 c2] rfl (Lw.be HLW.out D4.out) X3.heap.size rfl rfl R4.out.all (fun u hu => by obtain rfl := List.mem_singleton.1 hu; rfl) HNM.out ?_; intro v5 X5 q1 q2 q3; have L5 : Hid (Lw X5 29 1 v5 (N + 1) (cs ++ [.slice A2 n2 c2])) := q1; have G5 : Hid (X4.grownBy X5 (Value.slice A N cap).ownBlock) := q2; have O5 : Hid (v5.ownBlock = (Value.slice A N cap).ownBlock ∨ v5.ownBlock = some X4.heap.size) := q3; have RB5 : Hid (Row X5 B [.slice A N cap] 53) := row_gb (Row.below K3.out.row D4.out K3.out.row.lt) q2 (some_ne (Lw.ne HLW.out K3.out.row (by decide))); clear q1 q2 q3; obtain ⟨A5, c5, e5, _, _⟩ := Lw.form L5.out; subst e5; simp only [Act.put, List.setIfInBounds_toArray, List.set_cons_zero, List.set_cons_succ])
    | (refine wpList_set1 rfl 51 (.tmp 36) (.tmp 34) rfl B 0 (.slice A5 (N + 1) c5) [.slice A N cap] 53 rfl rfl rfl RB5.out (Nat.succ_pos _) info_tx rfl ?_; intro X6 q1 q2 q3; have R6 : Hid (Row X6 B [.slice A5 (N + 1) c5] 53) := q1; have G6 : Hid (Gro (· = B) X5 X6) := q2; clear q1 q2 q3; simp only [Act.put]))
  go_ret
  have hG5 : Gro (fun g => g = B ∨ (Value.slice A N cap).ownBlock = some g) w X5 := Gro.grown (Gro.of_below (B3.out.trans (D4.out.mono B3.out.size))) G5.out (fun g e => .inl (.inr e))
  have hG6 : Gro (fun g => g = B ∨ (Value.slice A N cap).ownBlock = some g) w X6 := Gro.trans hG5 (Gro.mono G6.out (fun g e => .inl e))
  refine ⟨rfl, .slice A5 (N + 1) c5, ⟨R6.out, ⟨cs ++ [.slice A2 n2 c2], ?_, ?_⟩, HBK.out.b0, ?_, ?_⟩, hG6, ?_⟩
  · rw [List.length_append, List.length_singleton, ← HN.out]
    exact Lw.gro L5.out G6.out (Lw.ne L5.out RB5.out (by decide))
  · have put : ∀ u d, Bw X3 u d → Bw X6 u d := fun u d hu => by
      have h4 := Bw.be hu D4.out
      have h5 : Bw X5 u d := Bw.block h4 (fun g e => G5.out.block g (Bw.lt h4 g e) (bl_ne h4 (Lw.be HLW.out D4.out) (by decide) g e))
      exact Bw.gro h5 G6.out (Bw.ne h5 RB5.out (by decide))
    intro i d' hd'
    by_cases hi : i < ts.length
    · rw [List.getElem?_append_left hi] at hd'
      obtain ⟨u, q1, q2⟩ := HCS.out i d' hd'
      refine ⟨u, ?_, put u d' q2⟩
      rw [List.getElem?_append_left ((List.getElem?_eq_some_iff.1 q1).1)]
      exact q1
    · have hcl : cs.length = ts.length := by have := Lw.len HLW.out; rw [HN.out] at this; omega
      have hi2 : i = ts.length := by
        have := (List.getElem?_eq_some_iff.1 hd').1
        rw [List.length_append, List.length_singleton] at this
        omega
      subst hi2
      rw [List.getElem?_append_right (Nat.le_refl _), Nat.sub_self] at hd'
      obtain rfl : d = d' := by simpa using hd'
      refine ⟨.slice A2 n2 c2, ?_, put _ _ W3.out⟩
      rw [List.getElem?_append_right (by omega), hcl, Nat.sub_self]
      rfl
  · intro g e
    rcases O5.out with h | h
    · exact HBK.out.v0 g (by rw [← h]; exact e)
    · rw [h] at e; cases e; exact Nat.le_trans (Nat.le_trans HBK.out.be.size B3.out.size) D4.out.size
  · exact HBK.out.be.trans (hG6.to_below HBK.out.be.size (fun g q => by
      rcases q with q | q
      · rw [q]; exact HBK.out.b0
      · exact HBK.out.v0 g q))
  · rcases O5.out with h | h
    · exact .inl h
    · exact .inr ⟨_, h, Nat.le_trans B3.out.size D4.out.size⟩
theorem put_ok (w0 : World) (B : Nat) (v : Value) (ts : List (List (BitVec 8))) (hts : ts.length ≤ 1000000) (en tk : Int) (rc : List (BitVec 8)) (am : List Nat) (hrc : rc.length = 20) (ham : am.length = 4) (hq4 : ∀ x ∈ am, x < 18446744073709551616) (hm : may (ts.length : Int) en tk am = true) (L : List Value) (hL : L = lf (ts.length : Int) en tk rc am) (w : World) (hb : Bk w0 w B v ts) :
    Calls Try.prog 14 #[.pointer (some ⟨B, 0, none⟩), .agg L.toArray] w fun e w' => e = .returned (.int .i64 0) ∧ ∃ v', Bk w0 w' B v' (ts ++ [lfb (ts.length : Int) en tk rc am]) ∧ Gro (fun g => g = B ∨ v.ownBlock = some g) w w' :=
  (put_in w0 B v ts hts en tk rc am hrc ham hq4 hm L hL w hb).mono fun _ _ ⟨q1, v', q2, q3, _⟩ => ⟨q1, v', q2, q3⟩

end Go.Proofs.Ytehjadgmleoobaa
