/-
  wire.Reader.seeDigits, where the number is there.
-/
import Derived.Test.YtfommclhnfcioaaXRg
import Derived.Laws.Bits64

namespace Go.Proofs.Ytfommclhnfcioaa
open Go Go.RowKit
open Sha

/-- The reader's own block alone turns. -/
abbrev Gp (P : Nat) : World → World → Prop := Gro (fun k => k = P)
/-- A look gave up. -/
def Gave (w w' : World) (P : Nat) (A : Option Addr) (cap : Nat) (bs : List (BitVec 8)) : Prop := (∃ b, Rg w' P A cap bs b) ∧ Gp P w w'
theorem c_at8 (bs : List (BitVec 8)) (i : Nat) : c (bs.getD i 0) = (at8 bs i : Int) := rfl
def qd (bs : List (BitVec 8)) (e t : Nat) : List Value := q4 (lb bs e 0 t) (lb bs e 1 t) (lb bs e 2 t) (lb bs e 3 t)
theorem qd_get (bs : List (BitVec 8)) (e t j : Nat) (h : j < 4) : (qd bs e t)[j]? = some (.int .u64 ((lb bs e j t : Nat) : Int)) := by
  rcases (show j = 0 ∨ j = 1 ∨ j = 2 ∨ j = 3 by omega) with rfl | rfl | rfl | rfl <;> rfl
theorem lb_other (bs : List (BitVec 8)) (e t j : Nat) (h : ¬ t / 8 = j) : lb bs e j (t + 1) = lb bs e j t := by simp only [lb]; rw [if_neg h]
theorem qd_step (bs : List (BitVec 8)) (e t : Nat) (h : t / 8 < 4) : (qd bs e t).set (t / 8) (.int .u64 ((lb bs e (t / 8) (t + 1) : Nat) : Int)) = qd bs e (t + 1) := by
  generalize hj : t / 8 = j at *
  rcases (show j = 0 ∨ j = 1 ∨ j = 2 ∨ j = 3 by omega) with rfl | rfl | rfl | rfl
  · unfold qd; rw [lb_other bs e t 1 (by omega), lb_other bs e t 2 (by omega), lb_other bs e t 3 (by omega)]; rfl
  · unfold qd; rw [lb_other bs e t 0 (by omega), lb_other bs e t 2 (by omega), lb_other bs e t 3 (by omega)]; rfl
  · unfold qd; rw [lb_other bs e t 0 (by omega), lb_other bs e t 1 (by omega), lb_other bs e t 3 (by omega)]; rfl
  · unfold qd; rw [lb_other bs e t 0 (by omega), lb_other bs e t 1 (by omega), lb_other bs e t 2 (by omega)]; rfl
theorem qd_one (bs : List (BitVec 8)) (e t : Nat) : ∀ v ∈ qd bs e t, v.oneCell' = true := q4_one _ _ _ _
theorem Gp.set {w W : World} {P : Nat} (h : Gp P w W) (o : Nat) (v : Value) : Gp P w (W.setCell ⟨P, o, none⟩ v) := Gro.set h P o v rfl

set_option maxRecDepth 100000 in
set_option maxHeartbeats 4000000 in
theorem seeDigits_no (P : Nat) (A : Option Addr) (cap : Nat) (bs : List (BitVec 8)) (a most : Nat) (f : Int) (hf : hiF most bs a = f) (h0 : ¬ f = 0) (w : World) (h : Rg w P A cap bs a) :
    Calls Try.prog 100 #[.pointer (some ⟨P, 0, none⟩), .int .i64 (most : Int)] w fun e w' => e = .panicked (gu f) ∧ Gave w w' P A cap bs := by
  have b0 : Below w.heap.size w (w.alloc (Obj.cells q4z.toArray 125)) := (Below.refl _ _).alloc (Nat.le_refl _) _
  replace h := h.be b0
  have hg : Gp P w (w.alloc (Obj.cells q4z.toArray 125)) := Gro.of_below b0
  clear b0
  generalize hX : w.alloc (Obj.cells q4z.toArray 125) = X at *
  unfold hiF at hf
  by_cases h1 : bs.length ≤ a
  · rw [if_pos h1] at hf
    subst hf
    have HN : Hid _ := seeByte_no P A cap bs a h1 X h
    have H : Hid (Rg X P A cap bs a) := h
    have HG : Hid (Gro _ _ _) := hg
    clear h hg h1
    go_enter Try.func100, Try.ntmps100
    go_wp2_with fail
    rw [show w.alloc (Obj.cells #[Value.int IntKind.u64 0, Value.int IntKind.u64 0, Value.int IntKind.u64 0, Value.int IntKind.u64 0] 125) = X from hX]
    refine Calls.mono HN.out ?_
    rintro e w1 ⟨rfl, m, hw⟩
    have HW : Hid _ := hw
    clear hw
    go_wp2_with fail
    exact ⟨rfl, rfl, by rw [HW.out]; exact ⟨⟨a, Rg.drewN H.out m⟩, Gro.drewN HG.out m⟩⟩
  rw [if_neg h1] at hf
  have HN : Hid _ := seeByte_any P A cap bs a (by omega) X h
  have hk : at8 bs a < 256 := at8_lt bs a
  rw [c_at8] at HN
  have HM : Hid (∀ m, Rg ((X.setCell ⟨P, 1, none⟩ (.int .i64 ((a + 1 : Nat) : Int))).drewN m) P A cap bs (a + 1) ∧ Gp P w ((X.setCell ⟨P, 1, none⟩ (.int .i64 ((a + 1 : Nat) : Int))).drewN m)) := fun m => ⟨(h.move (a + 1) (by omega)).drewN m, (Gp.set hg 1 _).drewN m⟩
  generalize hkk : at8 bs a = k at *
  clear h hg h1
  by_cases h2 : most < k
  · rw [if_pos h2] at hf
    subst hf
    have c1 : (most : Int) < (k : Int) := by omega

    go_enter Try.func100, Try.ntmps100
    go_wp2_with fail
    rw [show w.alloc (Obj.cells #[Value.int IntKind.u64 0, Value.int IntKind.u64 0, Value.int IntKind.u64 0, Value.int IntKind.u64 0] 125) = X from hX]
    refine Calls.mono HN.out ?_
    rintro e w1 ⟨rfl, m, hw⟩
    have H1 : Hid (Rg w1 P A cap bs (a + 1) ∧ Gp P w w1) := by rw [hw]; exact HM.out m
    clear hw HM HN
    go_wp2_with fail
    exact ⟨rfl, rfl, ⟨_, H1.out.1⟩, H1.out.2⟩
  rw [if_neg h2] at hf
  have c1 : ¬ (most : Int) < (k : Int) := by omega
  by_cases h3 : bs.length < a + 1 + k
  · rw [if_pos h3] at hf
    subst hf
    have H3 : Hid (bs.length < a + 1 + k) := h3
    clear h3
    go_enter Try.func100, Try.ntmps100
    go_wp2_with fail
    rw [show w.alloc (Obj.cells #[Value.int IntKind.u64 0, Value.int IntKind.u64 0, Value.int IntKind.u64 0, Value.int IntKind.u64 0] 125) = X from hX]
    refine Calls.mono HN.out ?_
    rintro e w1 ⟨rfl, m, hw⟩
    have H1 : Hid (Rg w1 P A cap bs (a + 1) ∧ Gp P w w1) := by rw [hw]; exact HM.out m
    clear hw HM HN
    go_wp2_with fail
    refine Calls.mono (next_no P A cap bs (a + 1) k H3.out w1 H1.out.1) ?_
    rintro e w2 ⟨rfl, m2, hw⟩
    have HW : Hid _ := hw
    clear hw
    go_wp2_with fail
    exact ⟨rfl, rfl, by rw [HW.out]; exact ⟨⟨a + 1, Rg.drewN H1.out.1 m2⟩, Gro.drewN H1.out.2 m2⟩⟩
  rw [if_neg h3] at hf
  by_cases h4 : 0 < k ∧ at8 bs (a + 1) = 0
  · rw [if_pos h4] at hf
    subst hf
    obtain ⟨h5, h6⟩ := h4
    have H3 : Hid (a + 1 + k ≤ bs.length) := by show _ ≤ _; omega
    have H6 : Hid (at8 bs (a + 1) = 0) := h6
    have c5 : (0 : Int) < (k : Int) := by omega
    clear h3 h6
    go_enter Try.func100, Try.ntmps100
    go_wp2_with fail
    rw [show w.alloc (Obj.cells #[Value.int IntKind.u64 0, Value.int IntKind.u64 0, Value.int IntKind.u64 0, Value.int IntKind.u64 0] 125) = X from hX]
    refine Calls.mono HN.out ?_
    rintro e w1 ⟨rfl, m, hw⟩
    have H1 : Hid (Rg w1 P A cap bs (a + 1) ∧ Gp P w w1) := by rw [hw]; exact HM.out m
    clear hw HM HN
    go_wp2_with fail
    refine Calls.mono (next_any P A cap bs (a + 1) k H3.out w1 H1.out.1) ?_
    rintro e w2 ⟨A', c', rfl, hc', _, hA', m2, hw⟩
    obtain ⟨g, rfl, rfl⟩ := hA' h5
    have HQ : Hid (Rg w2 P (some ⟨g, 0, none⟩) cap bs (a + 1 + k) ∧ Gp P w w2) := by rw [hw]; exact ⟨(H1.out.1.move _ H3.out).drewN m2, (Gp.set H1.out.2 1 _).drewN m2⟩
    obtain ⟨g', e1, gb⟩ := HQ.out.1.byte (a + 1) (by have := H3.out; omega)
    simp only [Option.some.injEq, Addr.mk.injEq] at e1
    obtain ⟨rfl, _⟩ := e1
    rw [c_at8, H6.out] at gb
    clear hw H1 hA'
    go_wp2
    exact ⟨rfl, rfl, ⟨_, HQ.out.1⟩, HQ.out.2⟩
  · rw [if_neg h4] at hf
    exact absurd hf.symm h0

end Go.Proofs.Ytfommclhnfcioaa

namespace Go.Proofs.Ytfommclhnfcioaa
open Go Go.RowKit
open Sha

theorem hiF_ok {most : Nat} {bs : List (BitVec 8)} {a : Nat} (h : hiF most bs a = 0) : a < bs.length ∧ at8 bs a ≤ most ∧ a + 1 + at8 bs a ≤ bs.length ∧ (0 < at8 bs a → at8 bs (a + 1) ≠ 0) := by
  unfold hiF at h
  by_cases h1 : bs.length ≤ a
  · rw [if_pos h1] at h; cases h
  rw [if_neg h1] at h
  by_cases h2 : most < at8 bs a
  · rw [if_pos h2] at h; cases h
  rw [if_neg h2] at h
  by_cases h3 : bs.length < a + 1 + at8 bs a
  · rw [if_pos h3] at h; cases h
  rw [if_neg h3] at h
  by_cases h4 : 0 < at8 bs a ∧ at8 bs (a + 1) = 0
  · rw [if_pos h4] at h; cases h
  exact ⟨by omega, by omega, by omega, fun q e => h4 ⟨q, e⟩⟩

theorem wrap64_nat (n : Nat) (h : n < 18446744073709551616) : IntKind.u64.wrap (n : Int) = (n : Int) := by
  rw [IntKind.wrap_u64]
  omega
theorem bits_or (x y : Nat) (hx : x < 18446744073709551616) (hy : y < 18446744073709551616) : bits BinOp.or IntKind.u64 (x : Int) (y : Int) = ((x ||| y : Nat) : Int) := by
  have e : ∀ n : Nat, n < 18446744073709551616 → (BitVec.ofInt IntKind.u64.bits (n : Int)).toNat = n := fun n h => by
    show (BitVec.ofInt 64 (n : Int)).toNat = n
    rw [BitVec.toNat_ofInt]
    have e2 : ((2 ^ 64 : Nat) : Int) = 18446744073709551616 := by decide
    omega
  show IntKind.u64.wrap (((BitVec.ofInt IntKind.u64.bits (x : Int)) ||| (BitVec.ofInt IntKind.u64.bits (y : Int))).toNat : Int) = _
  rw [BitVec.toNat_or, e x hx, e y hy]
  exact wrap64_nat _ (Nat.or_lt_two_pow (n := 64) hx hy)
/-- A byte shifted, or'd. -/
theorem or_lb (bs : List (BitVec 8)) (e t : Nat) : bits BinOp.or IntKind.u64 ((lb bs e (t / 8) t : Nat) : Int) (IntKind.u64.wrap (((at8 bs (e - 1 - t) : Nat) : Int) * 2 ^ (t % 8 * 8))) = ((lb bs e (t / 8) (t + 1) : Nat) : Int) := by
  have h8 := at8_lt bs (e - 1 - t)
  have hp : (2 : Nat) ^ (t % 8 * 8) ≤ 2 ^ 56 := Nat.pow_le_pow_right (by decide) (by omega)
  have h56 : (2 : Nat) ^ 56 = 72057594037927936 := by decide
  have hm : at8 bs (e - 1 - t) * 2 ^ (t % 8 * 8) < 18446744073709551616 := by
    have h1 : at8 bs (e - 1 - t) * 2 ^ (t % 8 * 8) ≤ 255 * 2 ^ 56 := Nat.mul_le_mul (by omega) hp
    omega
  have ec : ((at8 bs (e - 1 - t) : Nat) : Int) * 2 ^ (t % 8 * 8) = ((at8 bs (e - 1 - t) * 2 ^ (t % 8 * 8) : Nat) : Int) := by norm_cast
  rw [ec, wrap64_nat _ hm, bits_or _ _ (lb_64 _ _ _ _) hm, lb_or bs e (t / 8) t rfl]

set_option maxRecDepth 100000 in
set_option maxHeartbeats 4000000 in
theorem seeDigits_any (P : Nat) (A : Option Addr) (cap : Nat) (bs : List (BitVec 8)) (a most : Nat) (hm : most ≤ 32) (hf : hiF most bs a = 0) (k : Nat) (hk : at8 bs a = k) (w : World) (h : Rg w P A cap bs a) :
    Calls Try.prog 100 #[.pointer (some ⟨P, 0, none⟩), .int .i64 (most : Int)] w fun e w' => e = .returned (.agg (qd bs (a + 1 + k) k).toArray) ∧ Rg w' P A cap bs (a + 1 + k) ∧ Gp P w w' := by
  obtain ⟨h1, h2, h3, h4⟩ := hiF_ok hf
  rw [hk] at h2 h3 h4
  have b0 : Below w.heap.size w (w.alloc (Obj.cells q4z.toArray 125)) := (Below.refl _ _).alloc (Nat.le_refl _) _
  have r0 : Row (w.alloc (Obj.cells q4z.toArray 125)) w.heap.size q4z 125 := Row.new' rfl rfl
  replace h := h.be b0
  have hg : Gp P w (w.alloc (Obj.cells q4z.toArray 125)) := Gro.of_below b0
  clear b0
  generalize hX : w.alloc (Obj.cells q4z.toArray 125) = X at *
  have HN : Hid _ := seeByte_any P A cap bs a h1 X h
  rw [c_at8, hk] at HN
  have HM : Hid (∀ m, Rg ((X.setCell ⟨P, 1, none⟩ (.int .i64 ((a + 1 : Nat) : Int))).drewN m) P A cap bs (a + 1) ∧ Gp P w ((X.setCell ⟨P, 1, none⟩ (.int .i64 ((a + 1 : Nat) : Int))).drewN m) ∧ Row ((X.setCell ⟨P, 1, none⟩ (.int .i64 ((a + 1 : Nat) : Int))).drewN m) w.heap.size q4z 125) := fun m => ⟨(h.move (a + 1) (by omega)).drewN m, (Gp.set hg 1 _).drewN m, (r0.set_other P 1 _ (row_ne r0 h.row (by decide))).drewN m⟩
  have c1 : ¬ (most : Int) < (k : Int) := by omega
  have k32 : k ≤ 32 := by omega
  have H3 : Hid (a + 1 + k ≤ bs.length) := h3
  have H4 : Hid (0 < k → at8 bs (a + 1) ≠ 0) := h4
  clear h hg h1 h2 h3 h4 hf hk hm r0
  go_enter Try.func100, Try.ntmps100
  go_wp2_with fail
  rw [show w.alloc (Obj.cells #[Value.int IntKind.u64 0, Value.int IntKind.u64 0, Value.int IntKind.u64 0, Value.int IntKind.u64 0] 125) = X from hX]
  clear hX
  refine Calls.mono HN.out ?_
  rintro e w1 ⟨rfl, m, hw⟩
  have H1 : Hid (Rg w1 P A cap bs (a + 1) ∧ Gp P w w1 ∧ Row w1 w.heap.size q4z 125) := by rw [hw]; exact HM.out m
  clear hw HM HN
  go_wp2_with fail
  refine Calls.mono (next_any P A cap bs (a + 1) k H3.out w1 H1.out.1) ?_
  rintro e W2 ⟨A', c', rfl, hc', hnil, hA', m2, hw⟩
  have HQ : Hid (Rg W2 P A cap bs (a + 1 + k) ∧ Gp P w W2 ∧ Row W2 w.heap.size q4z 125) := by
    rw [hw]; exact ⟨(H1.out.1.move _ H3.out).drewN m2, (Gp.set H1.out.2.1 1 _).drewN m2, (Row.set_other H1.out.2.2 P 1 _ (row_ne H1.out.2.2 H1.out.1.row (by decide))).drewN m2⟩
  clear hw H1
  have HN : Hid (w.heap.size < W2.heap.size) := Row.lt HQ.out.2.2
  have b2 : Below W2.heap.size W2 (W2.alloc (Obj.cells q4z.toArray 125)) := (Below.refl _ _).alloc (Nat.le_refl _) _
  have HR3 : Hid (Rg (W2.alloc (Obj.cells q4z.toArray 125)) P A cap bs (a + 1 + k)) := HQ.out.1.be b2
  have R03 : Hid (Row (W2.alloc (Obj.cells q4z.toArray 125)) w.heap.size q4z 125) := Row.below HQ.out.2.2 b2 (Row.lt HQ.out.2.2)
  have R73 : Hid (Row (W2.alloc (Obj.cells q4z.toArray 125)) W2.heap.size q4z 125) := Row.new' rfl rfl
  have HG3 : Hid (Gp P w (W2.alloc (Obj.cells q4z.toArray 125))) := HQ.out.2.1.below b2
  clear b2
  have HA : Hid (0 < k → ∃ g, A = some ⟨g, 0, none⟩ ∧ A' = some ⟨g, a + 1, none⟩) := hA'
  have cs : ¬ (0 : Int) < (k : Int) ∨ ((0 : Int) < (k : Int) ∧ ∃ g, A' = some ⟨g, a + 1, none⟩ ∧ ∃ x : Int, ¬ x = 0 ∧ W2.cell? ⟨g, a + 1, none⟩ = some (.int .u8 x)) := by
    by_cases hk : 0 < k
    · obtain ⟨g, hA, hA2⟩ := hA' hk
      obtain ⟨g', e1, gb⟩ := HQ.out.1.byte (a + 1) (by have := H3.out; omega)
      rw [hA] at e1
      simp only [Option.some.injEq, Addr.mk.injEq] at e1
      obtain ⟨rfl, _⟩ := e1
      exact .inr ⟨by omega, g, hA2, _, by rw [c_at8]; have := H4.out hk; omega, gb⟩
    · exact .inl (by omega)
  clear hA' HQ
  rcases cs with ck | ⟨ck, g, rfl, x, hx, gb⟩
  · have GB : True := trivial
    go_wp2
    go_loopw [8, 29] (fun _ i wr => ∃ t : Nat, t ≤ k ∧ i = .int .i64 (t : Int) ∧ Rg wr P A cap bs (a + 1 + k) ∧ Row wr w.heap.size q4z 125 ∧ Row wr W2.heap.size (qd bs (a + 1 + k) t) 125 ∧ Gp P w wr) (fun _ i _ => k - (intOf i).toNat)
    case atStart => exact ⟨0, Nat.zero_le _, rfl, HR3.out, R03.out, R73.out, HG3.out⟩
    case round =>
      clear HR3 R03 R73 HG3 GB
      obtain ⟨t, ht, rfl, hr, r0, r7, hg⟩ := hrel
      by_cases hlt : t < k
      · exact absurd hlt (by omega)
      · obtain rfl : t = k := by omega
        generalize hq : qd bs (a + 1 + t) t = cs at *
        have hcl : cs.length = 4 := by rw [← hq]; rfl
        have hone : cs.toArray.all (·.oneCell') = true := by rw [← hq]; exact all_oneCell_toArray (qd_one _ _ _)
        have hi : (Try.prog.info? 125).map (·.size) = some cs.length := by rw [info_q, hcl]
        have hi' : (Try.prog.info? 125).map (·.size) = some cs.toArray.size := by rw [info_q, List.size_toArray, hcl]
        have T0 := r0.there 0 cs.toArray.size (by rw [List.size_toArray, hcl]; decide)
        have nf := r0.over (vs := cs) (by rw [hcl]; rfl)
        have nr := hr.setsNew w.heap.size 0 cs r0 (by decide) (by decide)
        have ng : Gp P w (wr.setCells w.heap.size 0 cs) := by
          have k := below_setCells (Below.refl 0 wr) (b := w.heap.size) (o := 0) (Nat.zero_le _) cs
          exact ⟨k.os.trans hg.os, k.tape.trans hg.tape, k.output.trans hg.output, Nat.le_trans hg.size k.size, fun i hi hn => (heap_sets wr w.heap.size 0 _ i (by omega)).trans (hg.block i hi hn)⟩
        have HQ : Hid (qd bs (a + 1 + t) t = cs) := hq
        have HT : Hid _ := T0
        have HI : Hid _ := hi
        have HI' : Hid _ := hi'
        have HL : Hid (cs.length = 4) := hcl
        have HO : Hid _ := hone
        have NF : Hid _ := nf
        have NR : Hid (Rg _ _ _ _ _ _) := nr
        have NG : Hid (Gro _ _ _) := ng
        have R7 : Hid _ := r7
        clear T0 nf nr ng hr r0 r7 hg hi hi' hone hcl hq
        go_wp2_with (first
          | (refine wpList_load_w rfl 125 (.tmp 7) rfl W2.heap.size 0 rfl cs _ (Row.all R7.out) Try.underlying125 rfl HI.out ?_; simp only [Act.put, List.setIfInBounds_toArray, List.set_cons_zero, List.set_cons_succ])
          | (refine wpList_store_mid rfl 125 (.tmp 4) (.tmp 51) rfl w.heap.size 0 cs.toArray rfl rfl HT.out HI'.out HO.out ?_; simp only [Act.put]; (change wpList _ _ _ _ _ (World.setCells wr w.heap.size 0 cs))))
        exact bodyPost_ret (results_row Try.results100 _ _ w.heap.size 125 cs rfl NF.out Try.underlying125 info_q HL.out) rfl ⟨by rw [HQ.out], NR.out, NG.out⟩

  · have GB : True := trivial
    go_wp2
    go_loopw [8, 29] (fun _ i wr => ∃ t : Nat, t ≤ k ∧ i = .int .i64 (t : Int) ∧ Rg wr P A cap bs (a + 1 + k) ∧ Row wr w.heap.size q4z 125 ∧ Row wr W2.heap.size (qd bs (a + 1 + k) t) 125 ∧ Gp P w wr) (fun _ i _ => k - (intOf i).toNat)
    case atStart => exact ⟨0, Nat.zero_le _, rfl, HR3.out, R03.out, R73.out, HG3.out⟩
    case round =>
      clear HR3 R03 R73 HG3 GB gb
      obtain ⟨t, ht, rfl, hr, r0, r7, hg⟩ := hrel
      by_cases hlt : t < k
      · obtain ⟨u, hu⟩ : ∃ u : Nat, (k : Int) - 1 - (t : Int) = (u : Int) := ⟨k - 1 - t, by omega⟩
        have t8 : t / 8 < 4 := by omega
        obtain ⟨g', e1, gb'⟩ := hr.byte (a + 1 + u) (by have := H3.out; omega)
        obtain ⟨g2, e2, e3⟩ := HA.out (by omega)
        rw [e2] at e1
        simp only [Option.some.injEq, Addr.mk.injEq, and_true] at e1 e3
        have eg : g' = g := by rw [← e1, e3]
        subst eg
        have gb : wr.cell? ⟨g', a + 1 + u, none⟩ = some (.int .u8 (at8 bs (a + 1 + u) : Int)) := gb'
        have g7 := r7.cell (t / 8) _ (qd_get bs (a + 1 + k) t (t / 8) t8)
        have f7 := r7.thaw (t / 8)
        have q7 := r7.set (t / 8) (.int .u64 ((lb bs (a + 1 + k) (t / 8) (t + 1) : Nat) : Int))
        have q0 := r0.set_other W2.heap.size (t / 8) (.int .u64 ((lb bs (a + 1 + k) (t / 8) (t + 1) : Nat) : Int)) (by have := HN.out; omega)
        have qr := hr.setNew W2.heap.size (t / 8) (.int .u64 ((lb bs (a + 1 + k) (t / 8) (t + 1) : Nat) : Int)) r7 (by decide) (by decide)
        have qg := hg.setNew W2.heap.size (t / 8) (.int .u64 ((lb bs (a + 1 + k) (t / 8) (t + 1) : Nat) : Int)) (by have := HN.out; omega)
        rw [qd_step bs (a + 1 + k) t t8] at q7
        have eu : a + 1 + u = a + 1 + k - 1 - t := by omega
        have EX := or_lb bs (a + 1 + k) t
        rw [← eu] at EX
        have B8 := at8_lt bs (a + 1 + u)
        generalize at8 bs (a + 1 + u) = x at *
        generalize lb bs (a + 1 + k) (t / 8) (t + 1) = y at *
        generalize lb bs (a + 1 + k) (t / 8) t = z at *
        have EX' : Hid _ := EX
        have Q7 : Hid _ := q7
        have Q0 : Hid _ := q0
        have QR : Hid (Rg _ _ _ _ _ _) := qr
        have QG : Hid (Gro _ _ _) := qg
        have HUK : Hid (u + t + 1 = k) := by show _ = _; omega
        clear q7 q0 qr qg hr r0 r7 hg gb' e1 e3 e2 HA H4 EX eu
        go_wp2
        go_region
        rw [EX'.out]
        go_wp2
        exact ⟨⟨t + 1, hlt, by go_num, Rg.drewN QR.out 1, Q0.out, Q7.out, Gro.drewN QG.out 1⟩, by simp [intOf]; omega⟩
      · obtain rfl : t = k := by omega
        generalize hq : qd bs (a + 1 + t) t = cs at *
        have hcl : cs.length = 4 := by rw [← hq]; rfl
        have hone : cs.toArray.all (·.oneCell') = true := by rw [← hq]; exact all_oneCell_toArray (qd_one _ _ _)
        have hi : (Try.prog.info? 125).map (·.size) = some cs.length := by rw [info_q, hcl]
        have hi' : (Try.prog.info? 125).map (·.size) = some cs.toArray.size := by rw [info_q, List.size_toArray, hcl]
        have T0 := r0.there 0 cs.toArray.size (by rw [List.size_toArray, hcl]; decide)
        have nf := r0.over (vs := cs) (by rw [hcl]; rfl)
        have nr := hr.setsNew w.heap.size 0 cs r0 (by decide) (by decide)
        have ng : Gp P w (wr.setCells w.heap.size 0 cs) := by
          have k := below_setCells (Below.refl 0 wr) (b := w.heap.size) (o := 0) (Nat.zero_le _) cs
          exact ⟨k.os.trans hg.os, k.tape.trans hg.tape, k.output.trans hg.output, Nat.le_trans hg.size k.size, fun i hi hn => (heap_sets wr w.heap.size 0 _ i (by omega)).trans (hg.block i hi hn)⟩
        have HQ : Hid (qd bs (a + 1 + t) t = cs) := hq
        have HT : Hid _ := T0
        have HI : Hid _ := hi
        have HI' : Hid _ := hi'
        have HL : Hid (cs.length = 4) := hcl
        have HO : Hid _ := hone
        have NF : Hid _ := nf
        have NR : Hid (Rg _ _ _ _ _ _) := nr
        have NG : Hid (Gro _ _ _) := ng
        have R7 : Hid _ := r7
        clear T0 nf nr ng hr r0 r7 hg hi hi' hone hcl hq
        go_wp2_with (first
          | (refine wpList_load_w rfl 125 (.tmp 7) rfl W2.heap.size 0 rfl cs _ (Row.all R7.out) Try.underlying125 rfl HI.out ?_; simp only [Act.put, List.setIfInBounds_toArray, List.set_cons_zero, List.set_cons_succ])
          | (refine wpList_store_mid rfl 125 (.tmp 4) (.tmp 51) rfl w.heap.size 0 cs.toArray rfl rfl HT.out HI'.out HO.out ?_; simp only [Act.put]; (change wpList _ _ _ _ _ (World.setCells wr w.heap.size 0 cs))))
        exact bodyPost_ret (results_row Try.results100 _ _ w.heap.size 125 cs rfl NF.out Try.underlying125 info_q HL.out) rfl ⟨by rw [HQ.out], NR.out, NG.out⟩

end Go.Proofs.Ytfommclhnfcioaa
