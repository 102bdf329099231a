/-
  A reader with or without a fault: numbers; the same of the document's.
-/
import Derived.Test.YtmkmdbpibpbcjaaXTk
import Derived.Test.YtmkmdbpibpbcjaaXRn
import Derived.Test.YtmkmdbpibpbcjaaXShut

namespace Go.Proofs.Ytmkmdbpibpbcjaa
open Go Go.RowKit
open Sha

set_option maxRecDepth 100000 in
set_option maxHeartbeats 2000000 in
theorem take_number (P : Nat) (A : Option Addr) (cap : Nat) (bs : List (BitVec 8)) (a : Nat) (f : Int) (v : Value) (a' : Nat) (w : World) (h : Rg w P A cap bs a)
    (hok : f = 0 → ∀ W, Rg W P A cap bs a → Calls Try.prog 91 #[.pointer (some ⟨P, 0, none⟩)] W fun e w' => e = .returned v ∧ Rg w' P A cap bs a' ∧ Gp P W w')
    (hno : ¬ f = 0 → ∀ W, Rg W P A cap bs a → Calls Try.prog 91 #[.pointer (some ⟨P, 0, none⟩)] W fun e w' => e = .panicked (gu f) ∧ Gave W w' P A cap bs) :
    Calls Try.prog 90 #[.pointer (some ⟨P, 0, none⟩), .func (.func 91) #[] #[]] w fun e w' => (f = 0 → e = .returned v ∧ Rg w' P A cap bs a') ∧ (¬ f = 0 → e = .returned (.int .i64 0) ∧ Rf w' P a f) ∧ Gp P w w' := by
  have hmf : ∀ (fn : Fn) (first cap : Array Value) (w : World), (Instr.makeFunc fn first cap).run Try.prog w = .ok (.func fn first cap) w := fun _ _ _ _ => rfl
  have b0 : Below w.heap.size w (w.alloc (Obj.cells #[.pointer (some ⟨P, 0, none⟩)] 43)) := (Below.refl _ _).alloc (Nat.le_refl _) _
  have b1 := b0.alloc b0.size (Obj.cells #[.int .i64 (a : Int)] 3)
  have HR0 : Hid (Rg (w.alloc (Obj.cells #[.pointer (some ⟨P, 0, none⟩)] 43)) P A cap bs a) := h.be b0
  have HE : Hid _ := err_ok P _ a 0 _ HR0.out.row
  have g1 := HR0.out.row.cell 1 _ rfl
  have HR1 : Hid (Rg ((w.alloc (Obj.cells #[.pointer (some ⟨P, 0, none⟩)] 43)).alloc (Obj.cells #[.int .i64 (a : Int)] 3)) P A cap bs a) := HR0.out.be ((Below.refl _ _).alloc (Nat.le_refl _) _)
  have RA : Hid (Row ((w.alloc (Obj.cells #[.pointer (some ⟨P, 0, none⟩)] 43)).alloc (Obj.cells #[.int .i64 (a : Int)] 3)) (w.heap.size + 1) [.int .i64 (a : Int)] 3) := Row.new' (by simp) rfl
  have RR : Hid (Row ((w.alloc (Obj.cells #[.pointer (some ⟨P, 0, none⟩)] 43)).alloc (Obj.cells #[.int .i64 (a : Int)] 3)) w.heap.size [.pointer (some ⟨P, 0, none⟩)] 43) := (Row.new' rfl rfl).alloc _
  have HB1 : Hid _ := b1
  have HP : Hid (P < w.heap.size) := h.row.lt
  clear h b0 b1
  by_cases hf : f = 0
  · have HK : Hid _ := hok hf _ HR1.out
    clear hok hno
    go_enter_defers Try.func90, Try.ntmps90
    go_wp2_with (go_at_call 15; refine Calls.mono HE.out ?_; rintro e w2 ⟨rfl, rfl⟩)
    refine Calls.mono HK.out ?_
    rintro e V ⟨rfl, hr, hg⟩
    have HR : Hid (Rg _ _ _ _ _ _) := hr
    have HG : Hid (Gro (fun k => k = P) w V) := (Gro.of_below HB1.out).trans hg
    clear hr hg HK
    go_wp2
    refine leaves_cons (f := 125) (args := #[.pointer (some ⟨w.heap.size + 1, 0, none⟩), .pointer (some ⟨w.heap.size, 0, none⟩)]) (by simp) (by simp [go_sem]) ?_
    refine (idle_int ⟨w.heap.size + 1, 0, none⟩ ⟨w.heap.size, 0, none⟩ _).mono ?_
    rintro e u' w'' ⟨rfl, rfl, rfl⟩
    exact ⟨_, results_tmp rfl _ _ _, fun _ => ⟨rfl, HR.out⟩, fun q => absurd hf q, HG.out⟩
  · have HK : Hid _ := hno hf _ HR1.out
    clear hok hno
    go_enter_defers Try.func90, Try.ntmps90
    go_wp2_with (go_at_call 15; refine Calls.mono HE.out ?_; rintro e w2 ⟨rfl, rfl⟩)
    refine Calls.mono HK.out ?_
    rintro e V ⟨rfl, ⟨b, hr⟩, hg⟩
    have ra : Row V (w.heap.size + 1) [.int .i64 (a : Int)] 3 := hg.row RA.out (by have := HP.out; omega)
    have rr : Row V w.heap.size [.pointer (some ⟨P, 0, none⟩)] 43 := hg.row RR.out (by have := HP.out; omega)
    have HC : Hid _ := catch_int (w.heap.size + 1) w.heap.size P a f _ (b : Int) V ra rr hr.row
    have HG : Hid (Gro (fun k => k = P) w V) := (Gro.of_below HB1.out).trans hg
    clear hr hg HK ra rr
    go_wp2
    refine leaves_cons (f := 125) (args := #[.pointer (some ⟨w.heap.size + 1, 0, none⟩), .pointer (some ⟨w.heap.size, 0, none⟩)]) (by simp) (by simp [go_sem]) ?_
    refine CallsD.mono HC.out ?_
    rintro e u' w'' ⟨rfl, rfl, hrf, hgf⟩
    have HRF : Hid (Rf _ _ _ _) := hrf
    have HGF : Hid (Gro (fun k => k = P) w w'') := HG.out.trans hgf
    clear hrf hgf
    simp [Leaves, settle, results, Try.results90, go_sem]
    exact ⟨fun q => absurd q hf, fun _ => HRF.out, HGF.out⟩

set_option maxRecDepth 100000 in
set_option maxHeartbeats 2000000 in
theorem take_count (P : Nat) (A : Option Addr) (cap : Nat) (bs : List (BitVec 8)) (a : Nat) (most : Int) (qm : Nat) (f : Int) (v : Value) (a' : Nat) (w : World) (h : Rg w P A cap bs a) (hm : Row w qm [.int .i64 most] 3)
    (hok : f = 0 → ∀ W, Rg W P A cap bs a → Row W qm [.int .i64 most] 3 → Calls Try.prog 124 #[.pointer (some ⟨P, 0, none⟩), .pointer (some ⟨qm, 0, none⟩)] W fun e w' => e = .returned v ∧ Rg w' P A cap bs a' ∧ Gp P W w')
    (hno : ¬ f = 0 → ∀ W, Rg W P A cap bs a → Row W qm [.int .i64 most] 3 → Calls Try.prog 124 #[.pointer (some ⟨P, 0, none⟩), .pointer (some ⟨qm, 0, none⟩)] W fun e w' => e = .panicked (gu f) ∧ Gave W w' P A cap bs) :
    Calls Try.prog 90 #[.pointer (some ⟨P, 0, none⟩), .func (.func 124) #[] #[.pointer (some ⟨qm, 0, none⟩)]] w fun e w' => (f = 0 → e = .returned v ∧ Rg w' P A cap bs a') ∧ (¬ f = 0 → e = .returned (.int .i64 0) ∧ Rf w' P a f) ∧ Gp P w w' := by
  have hmf : ∀ (fn : Fn) (first cap : Array Value) (w : World), (Instr.makeFunc fn first cap).run Try.prog w = .ok (.func fn first cap) w := fun _ _ _ _ => rfl
  have b0 : Below w.heap.size w (w.alloc (Obj.cells #[.pointer (some ⟨P, 0, none⟩)] 43)) := (Below.refl _ _).alloc (Nat.le_refl _) _
  have b1 := b0.alloc b0.size (Obj.cells #[.int .i64 (a : Int)] 3)
  have HR0 : Hid (Rg (w.alloc (Obj.cells #[.pointer (some ⟨P, 0, none⟩)] 43)) P A cap bs a) := h.be b0
  have HE : Hid _ := err_ok P _ a 0 _ HR0.out.row
  have g1 := HR0.out.row.cell 1 _ rfl
  have HR1 : Hid (Rg ((w.alloc (Obj.cells #[.pointer (some ⟨P, 0, none⟩)] 43)).alloc (Obj.cells #[.int .i64 (a : Int)] 3)) P A cap bs a) := HR0.out.be ((Below.refl _ _).alloc (Nat.le_refl _) _)
  have RA : Hid (Row ((w.alloc (Obj.cells #[.pointer (some ⟨P, 0, none⟩)] 43)).alloc (Obj.cells #[.int .i64 (a : Int)] 3)) (w.heap.size + 1) [.int .i64 (a : Int)] 3) := Row.new' (by simp) rfl
  have RR : Hid (Row ((w.alloc (Obj.cells #[.pointer (some ⟨P, 0, none⟩)] 43)).alloc (Obj.cells #[.int .i64 (a : Int)] 3)) w.heap.size [.pointer (some ⟨P, 0, none⟩)] 43) := (Row.new' rfl rfl).alloc _
  have HB1 : Hid _ := b1
  have HP : Hid (P < w.heap.size) := h.row.lt
  have hm1 := Row.below hm b1 hm.lt
  clear hm
  clear h b0 b1
  by_cases hf : f = 0
  · have HK : Hid _ := hok hf _ HR1.out hm1
    clear hok hno
    go_enter_defers Try.func90, Try.ntmps90
    go_wp2_with (go_at_call 15; refine Calls.mono HE.out ?_; rintro e w2 ⟨rfl, rfl⟩)
    refine Calls.mono HK.out ?_
    rintro e V ⟨rfl, hr, hg⟩
    have HR : Hid (Rg _ _ _ _ _ _) := hr
    have HG : Hid (Gro (fun k => k = P) w V) := (Gro.of_below HB1.out).trans hg
    clear hr hg HK
    go_wp2
    refine leaves_cons (f := 125) (args := #[.pointer (some ⟨w.heap.size + 1, 0, none⟩), .pointer (some ⟨w.heap.size, 0, none⟩)]) (by simp) (by simp [go_sem]) ?_
    refine (idle_int ⟨w.heap.size + 1, 0, none⟩ ⟨w.heap.size, 0, none⟩ _).mono ?_
    rintro e u' w'' ⟨rfl, rfl, rfl⟩
    exact ⟨_, results_tmp rfl _ _ _, fun _ => ⟨rfl, HR.out⟩, fun q => absurd hf q, HG.out⟩
  · have HK : Hid _ := hno hf _ HR1.out hm1
    clear hok hno
    go_enter_defers Try.func90, Try.ntmps90
    go_wp2_with (go_at_call 15; refine Calls.mono HE.out ?_; rintro e w2 ⟨rfl, rfl⟩)
    refine Calls.mono HK.out ?_
    rintro e V ⟨rfl, ⟨b, hr⟩, hg⟩
    have ra : Row V (w.heap.size + 1) [.int .i64 (a : Int)] 3 := hg.row RA.out (by have := HP.out; omega)
    have rr : Row V w.heap.size [.pointer (some ⟨P, 0, none⟩)] 43 := hg.row RR.out (by have := HP.out; omega)
    have HC : Hid _ := catch_int (w.heap.size + 1) w.heap.size P a f _ (b : Int) V ra rr hr.row
    have HG : Hid (Gro (fun k => k = P) w V) := (Gro.of_below HB1.out).trans hg
    clear hr hg HK ra rr
    go_wp2
    refine leaves_cons (f := 125) (args := #[.pointer (some ⟨w.heap.size + 1, 0, none⟩), .pointer (some ⟨w.heap.size, 0, none⟩)]) (by simp) (by simp [go_sem]) ?_
    refine CallsD.mono HC.out ?_
    rintro e u' w'' ⟨rfl, rfl, hrf, hgf⟩
    have HRF : Hid (Rf _ _ _ _) := hrf
    have HGF : Hid (Gro (fun k => k = P) w w'') := HG.out.trans hgf
    clear hrf hgf
    simp [Leaves, settle, results, Try.results90, go_sem]
    exact ⟨fun q => absurd q hf, fun _ => HRF.out, HGF.out⟩

end Go.Proofs.Ytmkmdbpibpbcjaa

namespace Go.Proofs.Ytmkmdbpibpbcjaa
open Go Go.RowKit
open Sha

set_option maxRecDepth 100000 in
set_option maxHeartbeats 2000000 in
theorem rcount_no (D g : Nat) (bs : List (BitVec 8)) (a : Nat) (f : Int) (hf : ¬ f = 0) (most : Int) (w : World) (h : Rr w D g bs a f) :
    Calls Try.prog 116 #[.pointer (some ⟨D, 0, none⟩), .int .i64 most] w fun e w' => e = .returned (.int .i64 0) ∧ Rr w' D g bs a f ∧ Gp D w w' := by
  have HH : Hid _ := rnum_no D g bs a f hf w h
  have g1 := h.row.cell 1 _ rfl
  have hb : (f == 0) = false := by simp [hf]
  clear h
  go_enter Try.func116, Try.ntmps116
  go_wp2_with fail
  refine Calls.mono HH.out ?_
  rintro e V ⟨rfl, hr, hg⟩
  have k2 := hr.row.cell 2 _ rfl
  have k1 := hr.row.cell 1 _ rfl
  have f1 := hr.row.thaw 1
  have HR : Hid (Rr _ _ _ _ _ _) := hr.move a hr.le
  have HG : Hid (Gp D w _) := Gp.set hg 1 (.int .i64 (a : Int))
  clear hr hg HH g1
  go_wp2
  go_ret
  exact ⟨rfl, HR.out, HG.out⟩

set_option maxRecDepth 100000 in
set_option maxHeartbeats 2000000 in
theorem rcount_bad (D g : Nat) (bs : List (BitVec 8)) (a : Nat) (most : Int) (e : Int) (he : cnE bs a most = e) (h0 : ¬ e = 0) (w : World) (h : Rr w D g bs a 0) :
    Calls Try.prog 116 #[.pointer (some ⟨D, 0, none⟩), .int .i64 most] w fun r w' => r = .returned (.int .i64 0) ∧ Rr w' D g bs a e ∧ Gp D w w' := by
  have g1 := h.row.cell 1 _ rfl
  have HLE : Hid (a ≤ bs.length) := h.le
  unfold cnE at he
  by_cases h1 : nuE bs a = 0
  · rw [if_pos h1] at he
    have HH : Hid _ := rnum_ok D g bs a h1 w h
    generalize nuW bs a = n at *
    generalize a + 1 + at8 bs a = a' at *
    clear h h1
    by_cases h2 : most < (n : Int)
    · rw [if_pos h2] at he
      subst he
      go_enter Try.func116, Try.ntmps116
      go_wp2_with fail
      refine Calls.mono HH.out ?_
      rintro r V ⟨rfl, hr, hg⟩
      have s2 := hr.row.cell 2 _ rfl
      have f2 := hr.row.thaw 2
      have hr2 := hr.err 30
      have t2 := hr2.row.cell 2 _ rfl
      have t1 := hr2.row.cell 1 _ rfl
      have f1 := hr2.row.thaw 1
      have HR : Hid (Rr _ _ _ _ _ _) := hr2.move a HLE.out
      have HG : Hid (Gp D w _) := Gp.set (Gp.set hg 2 (.int .i64 30)) 1 (.int .i64 (a : Int))
      clear hr hg hr2 HH g1
      go_wp2
      go_ret
      exact ⟨rfl, HR.out, HG.out⟩
    · rw [if_neg h2] at he
      by_cases h3 : bs.length < a' + n
      · rw [if_pos h3] at he
        subst he
        have H3 : Hid (bs.length < a' + n) := h3
        clear h3
        go_enter Try.func116, Try.ntmps116
        go_wp2_with fail
        refine Calls.mono HH.out ?_
        rintro r V ⟨rfl, hr, hg⟩
        have HL : Hid _ := rleft D g bs a' 0 V hr
        have c3 : (bs.length : Int) - (a' : Int) < (n : Int) := by have := H3.out; omega
        have s2 := hr.row.cell 2 _ rfl
        have HR1 : Hid (Rr _ _ _ _ _ _) := hr
        have HG1 : Hid (Gro _ _ _) := hg
        clear hr hg HH g1
        generalize (bs.length : Int) - (a' : Int) = q at *
        go_wp2_with fail
        refine Calls.mono HL.out ?_
        rintro r V2 ⟨rfl, m, hm⟩
        have hr : Rr V2 D g bs a' 0 := by rw [hm]; exact Rr.drewN HR1.out m
        have hg : Gp D w V2 := by rw [hm]; exact Gro.drewN HG1.out m
        have u2 := hr.row.cell 2 _ rfl
        have f2 := hr.row.thaw 2
        have hr2 := hr.err 31
        have t2 := hr2.row.cell 2 _ rfl
        have t1 := hr2.row.cell 1 _ rfl
        have f1 := hr2.row.thaw 1
        have HR : Hid (Rr _ _ _ _ _ _) := hr2.move a HLE.out
        have HG : Hid (Gp D w _) := Gp.set (Gp.set hg 2 (.int .i64 31)) 1 (.int .i64 (a : Int))
        clear hr hg hr2 HL hm HR1 HG1 s2
        go_wp2
        go_ret
        exact ⟨rfl, HR.out, HG.out⟩
      · rw [if_neg h3] at he
        exact absurd he.symm h0
  · rw [if_neg h1] at he
    have HH : Hid _ := rnum_bad D g bs a e he h0 w h
    have hb : (e == 0) = false := by simp [h0]
    clear h
    go_enter Try.func116, Try.ntmps116
    go_wp2_with fail
    refine Calls.mono HH.out ?_
    rintro r V ⟨rfl, hr, hg⟩
    have k2 := hr.row.cell 2 _ rfl
    have k1 := hr.row.cell 1 _ rfl
    have f1 := hr.row.thaw 1
    have HR : Hid (Rr _ _ _ _ _ _) := hr.move a hr.le
    have HG : Hid (Gp D w _) := Gp.set hg 1 (.int .i64 (a : Int))
    clear hr hg HH g1
    go_wp2
    go_ret
    exact ⟨rfl, HR.out, HG.out⟩

set_option maxRecDepth 100000 in
set_option maxHeartbeats 2000000 in
theorem rcount_ok (D g : Nat) (bs : List (BitVec 8)) (a : Nat) (most : Int) (he : cnE bs a most = 0) (w : World) (h : Rr w D g bs a 0) :
    Calls Try.prog 116 #[.pointer (some ⟨D, 0, none⟩), .int .i64 most] w fun r w' => r = .returned (.int .i64 ((nuW bs a : Nat) : Int)) ∧ Rr w' D g bs (a + 1 + at8 bs a) 0 ∧ Gp D w w' := by
  obtain ⟨h1, h2, h3⟩ := cnE_ok he
  have g1 := h.row.cell 1 _ rfl
  have HH : Hid _ := rnum_ok D g bs a h1 w h
  generalize nuW bs a = n at *
  generalize a + 1 + at8 bs a = a' at *
  have c2 : ¬ most < (n : Int) := by omega
  have H3 : Hid (a' + n ≤ bs.length) := h3
  clear h h1 h3 h2 he
  go_enter Try.func116, Try.ntmps116
  go_wp2_with fail
  refine Calls.mono HH.out ?_
  rintro r V ⟨rfl, hr, hg⟩
  have HL : Hid _ := rleft D g bs a' 0 V hr
  have c3 : ¬ (bs.length : Int) - (a' : Int) < (n : Int) := by have := H3.out; omega
  have s2 := hr.row.cell 2 _ rfl
  have HR1 : Hid (Rr _ _ _ _ _ _) := hr
  have HG1 : Hid (Gro _ _ _) := hg
  clear hr hg HH g1
  generalize (bs.length : Int) - (a' : Int) = q at *
  go_wp2_with fail
  refine Calls.mono HL.out ?_
  rintro r V2 ⟨rfl, m, hm⟩
  have hr : Rr V2 D g bs a' 0 := by rw [hm]; exact Rr.drewN HR1.out m
  have hg : Gp D w V2 := by rw [hm]; exact Gro.drewN HG1.out m
  have u2 := hr.row.cell 2 _ rfl
  have HR : Hid (Rr _ _ _ _ _ _) := hr
  have HG : Hid (Gro _ _ _) := hg
  clear hr hg HL hm HR1 HG1 s2
  go_wp2
  go_ret
  exact ⟨rfl, HR.out, HG.out⟩

end Go.Proofs.Ytmkmdbpibpbcjaa

namespace Go.Proofs.Ytmkmdbpibpbcjaa
open Go Go.RowKit
open Sha

/-- A reader, with or without a fault. -/
def Rx (w : World) (P : Nat) (A : Option Addr) (cap : Nat) (bs : List (BitVec 8)) (a : Nat) (f : Int) : Prop := (f = 0 ∧ Rg w P A cap bs a) ∨ (¬ f = 0 ∧ Rf w P a f)
section
variable {w w' : World} {P cap a : Nat} {A : Option Addr} {bs : List (BitVec 8)} {f : Int}
theorem Rx.be (h : Rx w P A cap bs a f) (k : Below w.heap.size w w') : Rx w' P A cap bs a f := by
  rcases h with ⟨h1, h2⟩ | ⟨h1, h2⟩
  · exact .inl ⟨h1, h2.be k⟩
  · exact .inr ⟨h1, Row.below h2 k (Row.lt h2)⟩
theorem Rx.row (h : Rx w P A cap bs a f) : ∃ v, Rs w P v (a : Int) f := by
  rcases h with ⟨rfl, h2⟩ | ⟨_, h2⟩
  · exact ⟨_, h2.row⟩
  · exact ⟨_, h2⟩
theorem Rx.gro {R : Nat → Prop} (h : Rx w P A cap bs a f) (k : Gro R w w') (h1 : ¬ R P) (h2 : f = 0 → ∀ g, (Value.slice A bs.length cap).ownBlock = some g → ¬ R g) : Rx w' P A cap bs a f := by
  rcases h with ⟨h0, h3⟩ | ⟨h0, h3⟩
  · exact .inl ⟨h0, k.row h3.row h1, Bw.gro h3.bw k (h2 h0), h3.le, h3.len⟩
  · exact .inr ⟨h0, k.row h3 h1⟩
end
def nV (bs : List (BitVec 8)) (a : Nat) (f : Int) : Nat := if f = 0 then (if nuE bs a = 0 then nuW bs a else 0) else 0
def nA (bs : List (BitVec 8)) (a : Nat) (f : Int) : Nat := if f = 0 then (if nuE bs a = 0 then a + 1 + at8 bs a else a) else a
def nF (bs : List (BitVec 8)) (a : Nat) (f : Int) : Int := if f = 0 then nuE bs a else f
def cV (bs : List (BitVec 8)) (a : Nat) (f most : Int) : Nat := if f = 0 then (if cnE bs a most = 0 then nuW bs a else 0) else 0
def cA (bs : List (BitVec 8)) (a : Nat) (f most : Int) : Nat := if f = 0 then (if cnE bs a most = 0 then a + 1 + at8 bs a else a) else a
def cF (bs : List (BitVec 8)) (a : Nat) (f most : Int) : Int := if f = 0 then cnE bs a most else f
theorem cV_le (bs : List (BitVec 8)) (a : Nat) (f most : Int) : cV bs a f most ≤ bs.length := by
  unfold cV
  split
  · split
    · rename_i h1 h2; have := cnE_ok h2; omega
    · omega
  · omega

set_option maxRecDepth 100000 in
theorem number_x (P : Nat) (A : Option Addr) (cap : Nat) (bs : List (BitVec 8)) (a : Nat) (f : Int) (w : World) (h : Rx w P A cap bs a f) :
    Calls Try.prog 29 #[.pointer (some ⟨P, 0, none⟩)] w fun e w' => e = .returned (.int .i64 ((nV bs a f : Nat) : Int)) ∧ Rx w' P A cap bs (nA bs a f) (nF bs a f) ∧ Gp P w w' := by
  rcases h with ⟨rfl, h⟩ | ⟨hf, h⟩
  · have HT : Hid _ := take_number P A cap bs a (nuE bs a) (.int .i64 ((nuW bs a : Nat) : Int)) (a + 1 + at8 bs a) w h (fun h0 W hr => seeNumber_any P A cap bs a h0 W hr) (fun h0 W hr => seeNumber_no P A cap bs a _ rfl h0 W hr)
    clear h
    go_enter Try.func29, Try.ntmps29
    go_wp2_with fail
    refine Calls.mono HT.out ?_
    rintro e V ⟨h1, h2, hg⟩
    have HG : Hid (Gro _ _ _) := hg
    by_cases hz : nuE bs a = 0
    · obtain ⟨rfl, hr⟩ := h1 hz
      have HR : Hid (Rx V P A cap bs (nA bs a 0) (nF bs a 0)) := .inl ⟨by unfold nF; rw [if_pos rfl]; exact hz, by unfold nA; rw [if_pos rfl, if_pos hz]; exact hr⟩
      have EV : Hid (nV bs a 0 = nuW bs a) := by show _ = _; unfold nV; rw [if_pos rfl, if_pos hz]
      clear h1 h2 hg HT hr
      go_wp2_with fail
      go_ret
      exact ⟨by rw [EV.out]; rfl, HR.out, HG.out⟩
    · obtain ⟨rfl, hr⟩ := h2 hz
      have HR : Hid (Rx V P A cap bs (nA bs a 0) (nF bs a 0)) := .inr ⟨by unfold nF; rw [if_pos rfl]; exact hz, by unfold nA nF; rw [if_pos rfl, if_neg hz, if_pos rfl]; exact hr⟩
      have EV : Hid (nV bs a 0 = 0) := by show _ = _; unfold nV; rw [if_pos rfl, if_neg hz]
      clear h1 h2 hg HT hr
      go_wp2_with fail
      go_ret
      exact ⟨by rw [EV.out]; rfl, HR.out, HG.out⟩
  · refine (none_int P _ (a : Int) f hf w h).mono ?_
    rintro e V ⟨rfl, hb⟩
    refine ⟨by unfold nV; rw [if_neg hf]; rfl, ?_, Gro.of_below hb⟩
    unfold nA nF
    rw [if_neg hf, if_neg hf]
    exact .inr ⟨hf, Row.below h hb (Row.lt h)⟩

theorem rnum_x (D g : Nat) (bs : List (BitVec 8)) (a : Nat) (f : Int) (w : World) (h : Rr w D g bs a f) :
    Calls Try.prog 61 #[.pointer (some ⟨D, 0, none⟩)] w fun e w' => e = .returned (.int .i64 ((nV bs a f : Nat) : Int)) ∧ Rr w' D g bs (nA bs a f) (nF bs a f) ∧ Gp D w w' := by
  unfold nV nA nF
  by_cases hf : f = 0
  · subst hf
    rw [if_pos rfl, if_pos rfl, if_pos rfl]
    by_cases hz : nuE bs a = 0
    · rw [if_pos hz, if_pos hz, hz]
      exact rnum_ok D g bs a hz w h
    · rw [if_neg hz, if_neg hz]
      exact rnum_bad D g bs a _ rfl hz w h
  · rw [if_neg hf, if_neg hf, if_neg hf]
    exact rnum_no D g bs a f hf w h
theorem rcount_x (D g : Nat) (bs : List (BitVec 8)) (a : Nat) (f most : Int) (w : World) (h : Rr w D g bs a f) :
    Calls Try.prog 116 #[.pointer (some ⟨D, 0, none⟩), .int .i64 most] w fun e w' => e = .returned (.int .i64 ((cV bs a f most : Nat) : Int)) ∧ Rr w' D g bs (cA bs a f most) (cF bs a f most) ∧ Gp D w w' := by
  unfold cV cA cF
  by_cases hf : f = 0
  · subst hf
    rw [if_pos rfl, if_pos rfl, if_pos rfl]
    by_cases hz : cnE bs a most = 0
    · rw [if_pos hz, if_pos hz, hz]
      exact rcount_ok D g bs a most hz w h
    · rw [if_neg hz, if_neg hz]
      exact rcount_bad D g bs a most _ rfl hz w h
  · rw [if_neg hf, if_neg hf, if_neg hf]
    exact rcount_no D g bs a f hf most w h

set_option maxRecDepth 100000 in
theorem seeList_any (P : Nat) (A : Option Addr) (cap : Nat) (bs : List (BitVec 8)) (a : Nat) (most : Int) (qm : Nat) (hf : cnE bs a most = 0) (w : World) (h : Rg w P A cap bs a) (hm : Row w qm [.int .i64 most] 3) :
    Calls Try.prog 124 #[.pointer (some ⟨P, 0, none⟩), .pointer (some ⟨qm, 0, none⟩)] w fun e w' => e = .returned (.int .i64 ((nuW bs a : Nat) : Int)) ∧ Rg w' P A cap bs (a + 1 + at8 bs a) ∧ Gp P w w' := by
  have HC : Hid _ := seeCount_any P A cap bs a most hf w h
  have cm := hm.cell 0 _ rfl
  clear h hm
  go_enter Try.func124, Try.ntmps124
  go_wp2_with fail
  refine Calls.mono HC.out ?_
  rintro e V ⟨rfl, hr, hg⟩
  have HR : Hid (Rg _ _ _ _ _ _) := hr
  have HG : Hid (Gro _ _ _) := hg
  clear hr hg HC cm
  go_wp2_with fail
  go_ret
  exact ⟨rfl, HR.out, HG.out⟩
set_option maxRecDepth 100000 in
theorem seeList_no (P : Nat) (A : Option Addr) (cap : Nat) (bs : List (BitVec 8)) (a : Nat) (most : Int) (qm : Nat) (hf : ¬ cnE bs a most = 0) (w : World) (h : Rg w P A cap bs a) (hm : Row w qm [.int .i64 most] 3) :
    Calls Try.prog 124 #[.pointer (some ⟨P, 0, none⟩), .pointer (some ⟨qm, 0, none⟩)] w fun e w' => e = .panicked (gu (cnE bs a most)) ∧ Gave w w' P A cap bs := by
  have HC : Hid _ := seeCount_no P A cap bs a most _ rfl hf w h
  have cm := hm.cell 0 _ rfl
  clear h hm
  go_enter Try.func124, Try.ntmps124
  go_wp2_with fail
  refine Calls.mono HC.out ?_
  rintro e V ⟨rfl, hr⟩
  have HR : Hid (Gave _ _ _ _ _ _) := hr
  clear hr HC cm
  go_wp2_with fail
  exact ⟨rfl, rfl, HR.out⟩

/-- take of a list's number. -/
theorem count_x (P : Nat) (A : Option Addr) (cap : Nat) (bs : List (BitVec 8)) (a : Nat) (f most : Int) (qm : Nat) (w : World) (h : Rx w P A cap bs a f) (hm : Row w qm [.int .i64 most] 3) :
    Calls Try.prog 90 #[.pointer (some ⟨P, 0, none⟩), .func (.func 124) #[] #[.pointer (some ⟨qm, 0, none⟩)]] w fun e w' => e = .returned (.int .i64 ((cV bs a f most : Nat) : Int)) ∧ Rx w' P A cap bs (cA bs a f most) (cF bs a f most) ∧ Gp P w w' := by
  rcases h with ⟨rfl, h⟩ | ⟨hf, h⟩
  · refine (take_count P A cap bs a most qm (cnE bs a most) (.int .i64 ((nuW bs a : Nat) : Int)) (a + 1 + at8 bs a) w h hm (fun h0 W hr hq => seeList_any P A cap bs a most qm h0 W hr hq) (fun h0 W hr hq => seeList_no P A cap bs a most qm h0 W hr hq)).mono ?_
    rintro e V ⟨h1, h2, hg⟩
    unfold cV cA cF
    rw [if_pos rfl, if_pos rfl, if_pos rfl]
    by_cases hz : cnE bs a most = 0
    · obtain ⟨rfl, hr⟩ := h1 hz
      rw [if_pos hz, if_pos hz]
      exact ⟨rfl, .inl ⟨hz, hr⟩, hg⟩
    · obtain ⟨rfl, hr⟩ := h2 hz
      rw [if_neg hz, if_neg hz]
      exact ⟨rfl, .inr ⟨hz, hr⟩, hg⟩
  · refine (tkz_int P _ (a : Int) f hf _ w h).mono ?_
    rintro e V ⟨rfl, hb⟩
    unfold cV cA cF
    rw [if_neg hf, if_neg hf, if_neg hf]
    exact ⟨rfl, .inr ⟨hf, Row.below h hb (Row.lt h)⟩, Gro.of_below hb⟩

end Go.Proofs.Ytmkmdbpibpbcjaa
