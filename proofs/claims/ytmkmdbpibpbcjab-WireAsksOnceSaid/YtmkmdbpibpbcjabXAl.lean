/-
  List with the law's function that counts.
-/
import Derived.Test.YtmkmdbpibpbcjabXAx
import Derived.Test.YtmkmdbpibpbcjabXInt
namespace Go.Proofs.Ytmkmdbpibpbcjab
open Go Go.RowKit
open Sha

/-- Place and fault behind t numbers. -/
def rs (bs : List (BitVec 8)) (a : Nat) (f : Int) : Nat → Nat × Int
  | 0 => (a, f)
  | t + 1 => (nA bs (rs bs a f t).1 (rs bs a f t).2, nF bs (rs bs a f t).1 (rs bs a f t).2)
/-- How many are asked for. -/
def Ends (bs : List (BitVec 8)) (a : Nat) (f : Int) (n T : Nat) : Prop := T ≤ n ∧ (T = n ∨ ¬ (rs bs a f T).2 = 0) ∧ ∀ j, j < T → (rs bs a f j).2 = 0
theorem Ends.one {bs : List (BitVec 8)} {a : Nat} {f : Int} {n T U : Nat} (h : Ends bs a f n T) (k : Ends bs a f n U) : T = U := by
  obtain ⟨h1, h2, h3⟩ := h
  obtain ⟨k1, k2, k3⟩ := k
  rcases Nat.lt_trichotomy T U with q | q | q
  · rcases h2 with h2 | h2
    · omega
    · exact absurd (k3 T q) h2
  · exact q
  · rcases k2 with k2 | k2
    · omega
    · exact absurd (h3 U q) k2
theorem Rx.setC {w : World} {P cap a : Nat} {A : Option Addr} {bs : List (BitVec 8)} {f : Int} (h : Rx w P A cap bs a f) {C : Nat} {cs : List Value} {t : TypeId} (r : Row w C cs t) (h1 : t ≠ 70) (h2 : t ≠ 5) (o : Nat) (v : Value) : Rx (w.setCell ⟨C, o, none⟩ v) P A cap bs a f := by
  rcases h with ⟨h0, h3⟩ | ⟨h0, h3⟩
  · exact .inl ⟨h0, h3.setNew C o v r h1 h2⟩
  · exact .inr ⟨h0, Row.set_other h3 C o v (row_ne h3 r (Ne.symm h1))⟩
theorem Rx.ne {w : World} {P cap a : Nat} {A : Option Addr} {bs : List (BitVec 8)} {f : Int} (h : Rx w P A cap bs a f) {C : Nat} {cs : List Value} {t : TypeId} (r : Row w C cs t) (h1 : t ≠ 70) : C ≠ P := by
  obtain ⟨v, hv⟩ := h.row
  exact row_ne r hv h1

abbrev Gpc (P C : Nat) : World → World → Prop := Gro (fun k => k = P ∨ k = C)

set_option maxRecDepth 100000 in
set_option maxHeartbeats 1000000 in
theorem asks_one (P C : Nat) (A : Option Addr) (cap : Nat) (bs : List (BitVec 8)) (a : Nat) (f : Int) (t : Nat) (ht : t ≤ 140737488355328) (w : World) (h : Rx w P A cap bs a f) (hc : Row w C [.int .i64 (t : Int)] 3) :
    Calls Try.prog 28 #[.pointer (some ⟨P, 0, none⟩), .pointer (some ⟨C, 0, none⟩)] w fun e w' => e = .returned (.int .i64 ((nV bs a f : Nat) : Int)) ∧ Rx w' P A cap bs (nA bs a f) (nF bs a f) ∧ Row w' C [.int .i64 ((t + 1 : Nat) : Int)] 3 ∧ Gpc P C w w' := by
  have g0 := hc.cell 0 _ rfl
  have f0 := hc.thaw 0
  have h1 := h.setC hc (by decide) (by decide) 0 (.int .i64 ((t + 1 : Nat) : Int))
  have HC : Hid (Row (w.setCell ⟨C, 0, none⟩ (.int .i64 ((t + 1 : Nat) : Int))) C [.int .i64 ((t + 1 : Nat) : Int)] 3) := hc.set 0 _
  have HN : Hid _ := number_x P A cap bs a f _ h1
  have HNE : Hid (C ≠ P) := h.ne hc (by decide)
  have HG : Hid (Gpc P C w (w.setCell ⟨C, 0, none⟩ (.int .i64 ((t + 1 : Nat) : Int)))) := (Gro.refl _ w).set C 0 _ (.inr rfl)
  have E : Hid (((t + 1 : Nat) : Int) = (t : Int) + 1) := by show _ = _; omega
  clear h hc h1
  rw [E.out] at HN HC HG
  generalize nV bs a f = v at *
  go_enter Try.func28, Try.ntmps28
  go_wp2_with fail
  refine Calls.mono HN.out ?_
  rintro e V ⟨rfl, hr, hg⟩
  have HR : Hid (Rx _ _ _ _ _ _ _) := hr
  have HC2 : Hid (Row V C [.int .i64 ((t : Int) + 1)] 3) := hg.row HC.out HNE.out
  have HG2 : Hid (Gpc P C w V) := HG.out.trans (hg.mono (fun k q => .inl q))
  clear hr hg HN HC HG g0 f0
  go_wp2_with fail
  go_ret
  exact ⟨rfl, HR.out, by rw [E.out]; exact HC2.out, HG2.out⟩

/-- Within List. -/
structure Lk (w0 w : World) (P C : Nat) (A : Option Addr) (cap : Nat) (bs : List (BitVec 8)) (a : Nat) (f : Int) (Av : Option Addr) (cv t : Nat) : Prop where
  rx : Rx w P A cap bs a f
  cnt : Row w C [.int .i64 (t : Int)] 3
  own : ∃ d : List Int, d.length = t ∧ Iw w (.slice Av d.length cv) d
  fv : Fresh w0.heap.size (.slice Av t cv)
  hP : P < w0.heap.size
  hC : C < w0.heap.size
  gro : Gpc P C w0 w

theorem Lk.app {w0 w W1 w' : World} {P C : Nat} {A : Option Addr} {cap : Nat} {bs : List (BitVec 8)} {a : Nat} {f : Int} {Av Ax : Option Addr} {cv cx t : Nat} {d : List Int} {n : Int} (hrx : Rx w P A cap bs a f) (hfv : Fresh w0.heap.size (.slice Av t cv)) (hP : P < w0.heap.size) (hC : C < w0.heap.size) (hgro : Gpc P C w0 w) (hd : d.length = t) (b1 : Below w.heap.size w W1) (hown : Iw W1 (.slice Av d.length cv) d)
    (q1 : Iw w' (.slice Ax (d ++ [n]).length cx) (d ++ [n])) (q2 : W1.grownBy w' (Value.slice Av d.length cv).ownBlock) (q3 : (Value.slice Ax (d ++ [n]).length cx).ownBlock = (Value.slice Av d.length cv).ownBlock ∨ (Value.slice Ax (d ++ [n]).length cx).ownBlock = some W1.heap.size) (cn : Row w C [.int .i64 ((t + 1 : Nat) : Int)] 3) :
    Lk w0 w' P C A cap bs a f Ax cx (t + 1) := by
  have hlen : (d ++ [n]).length = t + 1 := by rw [List.length_append, hd]; rfl
  have G : Gro (fun g => (Value.slice Av d.length cv).ownBlock = some g) W1 w' := (Gro.refl _ _).grown q2 (fun g e => .inl e)
  have hfr : ∀ g, (Value.slice Av d.length cv).ownBlock = some g → w0.heap.size ≤ g := fun g e => hfv g (by rw [← hd]; exact e)
  have rx1 := hrx.be b1
  have cn1 := Row.below cn b1 cn.lt
  refine ⟨rx1.gro G (fun e => by have := hfr _ e; have := hP; omega) (fun hf0 g e q => ?_), G.row cn1 (fun e => by have := hfr _ e; have := hC; omega), ⟨d ++ [n], hlen, q1⟩, fun g e => ?_, hP, hC, ?_⟩
  · have rx2 := rx1
    rcases rx2 with ⟨_, h3⟩ | ⟨h0, h3⟩
    · obtain ⟨cs, r⟩ := Iw.row hown g q
      exact Bw.ne h3.bw r (by decide) g e rfl
    · exact absurd hf0 h0
  · rw [← hlen] at e
    rcases q3 with q | q
    · exact hfr g (q.symm.trans e)
    · have e2 : some W1.heap.size = some g := q.symm.trans e
      simp only [Option.some.injEq] at e2
      rw [← e2]
      exact Nat.le_trans hgro.size b1.size
  · exact (hgro.below b1).grown q2 (fun g e => .inr (hfr g e))

theorem app_form {w' : World} {v' : Value} {d : List Int} {x : Int} {t : Nat} (q1 : Iw w' v' (d ++ [x])) (hd : d.length = t) : ∃ Ax cx, v' = .slice Ax (t + 1) cx ∧ Iw w' (.slice Ax (d ++ [x]).length cx) (d ++ [x]) ∧ v'.ownBlock = (Value.slice Ax (d ++ [x]).length cx).ownBlock := by
  obtain ⟨Ax, cx, ex, _⟩ := Iw.form q1
  have hlen : (d ++ [x]).length = t + 1 := by simp [hd]
  refine ⟨Ax, cx, ?_, ?_, ?_⟩
  · rw [ex, hlen]
  · rw [← ex]; exact q1
  · rw [ex]

set_option maxRecDepth 100000 in
set_option maxHeartbeats 4000000 in
theorem list_asks (P C : Nat) (A : Option Addr) (cap : Nat) (bs : List (BitVec 8)) (a : Nat) (f most : Int) (w : World) (hl : bs.length ≤ 140737488351232) (h : Rx w P A cap bs a f) (hc : Row w C [.int .i64 0] 3) (a1 : Nat) (f1 : Int) (n : Nat) (ha1 : a1 = cA bs a f most) (hf1 : f1 = cF bs a f most) (hn1 : n = cV bs a f most) (hn : n ≤ 4194304) :
    Calls Try.prog 27 #[.pointer (some ⟨P, 0, none⟩), .int .i64 most, .func (.func 28) #[] #[.pointer (some ⟨C, 0, none⟩)]] w fun e w' => ∃ T A' c', Ends bs a1 f1 n T ∧ e = .returned (.slice A' (if (rs bs a1 f1 T).2 = 0 then T else 0) c') ∧ Rx w' P A cap bs (rs bs a1 f1 T).1 (rs bs a1 f1 T).2 ∧ Row w' C [.int .i64 (T : Int)] 3 ∧ Gpc P C w w' := by
  have hmf : ∀ (fn : Fn) (first cap : Array Value) (w : World), (Instr.makeFunc fn first cap).run Try.prog w = .ok (.func fn first cap) w := fun _ _ _ _ => rfl
  have hfn := fun w => rfunc_nil (.func 28) #[] #[.pointer (some ⟨C, 0, none⟩)] w
  have b0 : Below w.heap.size w (w.alloc (Obj.cells #[.int .i64 most] 3)) := (Below.refl _ _).alloc (Nat.le_refl _) _
  have rm : Row (w.alloc (Obj.cells #[.int .i64 most] 3)) w.heap.size [.int .i64 most] 3 := Row.new' rfl rfl
  have HT : Hid _ := count_x P A cap bs a f most w.heap.size _ (h.be b0) rm
  rw [← ha1, ← hf1, ← hn1] at HT
  have RC : Hid _ := Row.below hc b0 hc.lt
  have HPC : Hid (C ≠ P) := h.ne hc (by decide)
  have HLP : Hid (P < w.heap.size) := by obtain ⟨v, hv⟩ := h.row; exact Row.lt hv
  have HLC : Hid (C < w.heap.size) := hc.lt
  have HB0 : Hid _ := b0
  have HLEN : Hid (bs.length ≤ 140737488351232) := hl
  clear h hc b0 rm ha1 hf1 hn1 hl
  go_enter Try.func27, Try.ntmps27
  go_wp2_with fail
  refine Calls.mono HT.out ?_
  rintro e V ⟨rfl, hr, hg⟩
  have LK : Hid (Lk w V P C A cap bs a1 f1 none 0 0) := ⟨hr, hg.row RC.out HPC.out, ⟨[], rfl, Iw.nil _⟩, (fun g e => by simp [Value.ownBlock] at e), HLP.out, HLC.out, (Gro.of_below HB0.out).trans (hg.mono (fun k q => .inl q))⟩
  clear hr hg HT RC HB0 hfn
  go_wp2
  go_loopw [8] (fun l wr => ∃ (t : Nat) (Av : Option Addr) (cv : Nat), t ≤ n ∧ l = .slice Av t cv ∧ Lk w wr P C A cap bs (rs bs a1 f1 t).1 (rs bs a1 f1 t).2 Av cv t ∧ ∀ j, j < t → (rs bs a1 f1 j).2 = 0) (fun l _ => n - (match l with | .slice _ k _ => k | _ => 0))
  case atStart => exact ⟨0, none, 0, Nat.zero_le _, rfl, LK.out, fun j hj => by omega⟩
  case round =>
    clear LK
    obtain ⟨t, Av, cv, ht, rfl, hlk, hso⟩ := hrel
    have LK : Hid (Lk _ _ _ _ _ _ _ _ _ _ _ _) := hlk
    have HSO : Hid (∀ j, j < t → (rs bs a1 f1 j).2 = 0) := hso
    obtain ⟨v0, hrow⟩ := hlk.rx.row
    have g2 := hrow.cell 2 _ rfl
    clear hlk hso hrow
    have HRS : Hid (rs bs a1 f1 (t + 1) = (nA bs (rs bs a1 f1 t).1 (rs bs a1 f1 t).2, nF bs (rs bs a1 f1 t).1 (rs bs a1 f1 t).2)) := rfl
    by_cases hz : (rs bs a1 f1 t).2 = 0
    · by_cases hlt : t < n
      · have HZ : Hid ((rs bs a1 f1 t).2 = 0) := hz
        rw [hz] at g2
        clear hz
        go_wp2_with fail
        refine Calls.mono (asks_one P C A cap bs _ _ t (by omega) wr LK.out.rx LK.out.cnt) ?_
        rintro e W1 ⟨rfl, hr1, hc1, hg1⟩
        obtain ⟨d, hd, hown⟩ := LK.out.own
        have hown1 : Iw W1 (.slice Av t cv) d := by
          have := Iw.gro hown hg1 (fun g e q => by
            have h1 := LK.out.fv g (by rw [← hd]; exact e)
            have h2 := HLP.out
            have h3 := HLC.out
            rcases q with q | q <;> omega)
          rw [← hd]; exact this
        generalize hx : ((nV bs (rs bs a1 f1 t).1 (rs bs a1 f1 t).2 : Nat) : Int) = x
        clear hx
        have b1 : Below W1.heap.size W1 (W1.alloc (Obj.cells #[.int .i64 x] 3)) := (Below.refl _ _).alloc (Nat.le_refl _) _
        have R1 : Hid (Row (W1.alloc (Obj.cells #[.int .i64 x] 3)) W1.heap.size [.int .i64 x] 3) := Row.new' rfl rfl
        have HO : Hid (Iw (W1.alloc (Obj.cells #[.int .i64 x] 3)) (.slice Av t cv) d) := Iw.be hown1 b1
        have HL : Hid ((d.length + 1) * 8 ≤ 140737488355328) := by show _ ≤ _; omega
        have HD : Hid (d.length = t) := hd
        have B1 : Hid _ := b1
        have HR1 : Hid (Rx _ _ _ _ _ _ _) := hr1
        have HC1 : Hid (Row W1 C [.int .i64 ((t + 1 : Nat) : Int)] 3) := hc1
        have HG1 : Hid (Gpc P C w W1) := LK.out.gro.trans hg1
        clear hown hown1 hd b1 hr1 hc1 hg1 g2
        go_wp2_with (refine wpList_appi rfl (.tmp 29) (.tmp 33) rfl (.slice Av t cv) d rfl HO.out W1.heap.size x rfl R1.out HL.out ?_; intro v' w' q1 q2 q3; obtain ⟨Ax, cx, ex, k1, k2⟩ := app_form q1 HD.out; have Q1 : Hid _ := k1; have Q2 : Hid _ := q2; have Q3 : Hid _ := q3; rw [k2] at Q3; subst ex; clear q1 q2 q3 k1 k2; simp only [Act.put, List.setIfInBounds_toArray, List.set_cons_zero, List.set_cons_succ])
        have HLK := Lk.app HR1.out LK.out.fv HLP.out HLC.out HG1.out HD.out B1.out (by have := HO.out; rw [← HD.out] at this; exact this) Q1.out (by rw [HD.out]; exact Q2.out) (by rw [HD.out]; exact Q3.out) HC1.out
        refine ⟨⟨t + 1, Ax, cx, hlt, rfl, ?_, ?_⟩, ?_⟩
        · rw [HRS.out]; exact HLK
        · intro j hj
          by_cases e : j < t
          · exact HSO.out j e
          · obtain rfl : j = t := by omega
            exact HZ.out
        · simp only; omega
      · obtain rfl : t = n := by omega
        have HZ : Hid ((rs bs a1 f1 t).2 = 0) := hz
        rw [hz] at g2
        clear hz
        go_wp2
        go_ret
        exact ⟨t, Av, cv, ⟨Nat.le_refl _, .inl rfl, HSO.out⟩, by rw [if_pos HZ.out]; rfl, LK.out.rx, LK.out.cnt, LK.out.gro⟩
    · have HZ : Hid (¬ (rs bs a1 f1 t).2 = 0) := hz
      have hb : ((rs bs a1 f1 t).2 == 0) = false := by simp [hz]
      by_cases hlt : t < n
      · go_wp2
        go_ret
        exact ⟨t, none, 0, ⟨ht, .inr HZ.out, HSO.out⟩, by rw [if_neg HZ.out]; rfl, LK.out.rx, LK.out.cnt, LK.out.gro⟩
      · obtain rfl : t = n := by omega
        go_wp2
        go_ret
        exact ⟨t, none, 0, ⟨ht, .inl rfl, HSO.out⟩, by rw [if_neg HZ.out]; rfl, LK.out.rx, LK.out.cnt, LK.out.gro⟩

end Go.Proofs.Ytmkmdbpibpbcjab
