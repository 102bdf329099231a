/-
  wire.Reader: the faces Byte, Flag, Bytes, Wide, Digest, Address, with or without a fault.
-/
import Derived.Test.YtaaehdlenigomaaGreatXTk
import Derived.Test.YtaaehdlenigomaaGreatXSeeB
import Derived.Test.YtaaehdlenigomaaGreatXTs
import Derived.Test.YtaaehdlenigomaaGreatXTa
import Derived.Test.YtaaehdlenigomaaGreatXAx

namespace Go.Proofs.YtaaehdlenigomaaGreat
open Go Go.RowKit
open Sha

set_option maxRecDepth 100000 in
set_option maxHeartbeats 2000000 in
theorem catch_byte (qa qr P : Nat) (a0 : Nat) (e : Int) (v : Value) (b : Int) (w : World) (ha : Row w qa [.int .i64 (a0 : Int)] 3) (hr : Row w qr [.pointer (some ⟨P, 0, none⟩)] 61) (h : Row w P [v, .int .i64 b, .int .i64 0] 93) :
    CallsD Tryz.prog 111 #[.pointer (some ⟨qa, 0, none⟩), .pointer (some ⟨qr, 0, none⟩)] (.panicking (gu e)) w fun r u' w' => r = .returned (.tuple #[]) ∧ u' = .panicking [{ v := .iface GU (.int .i64 e), recovered := true }] ∧ Rf w' P a0 e ∧ Gp P w w' := by
  have ca := ha.cell 0 _ rfl
  have cr := hr.cell 0 _ rfl
  have g0 := h.cell 0 _ rfl
  have g1 := h.cell 1 _ rfl
  have g2 := h.cell 2 _ rfl
  have f0 := h.thaw 0
  have f1 := h.thaw 1
  have f2 := h.thaw 2
  have RF : Hid (Rf (((w.setCell ⟨P, 0, none⟩ (.slice none 0 0)).setCell ⟨P, 1, none⟩ (.int .i64 (a0 : Int))).setCell ⟨P, 2, none⟩ (.int .i64 e)) P a0 e) := ((h.set 0 (.slice none 0 0)).set 1 (.int .i64 (a0 : Int))).set 2 (.int .i64 e)
  have GF : Hid (Gp P w (((w.setCell ⟨P, 0, none⟩ (.slice none 0 0)).setCell ⟨P, 1, none⟩ (.int .i64 (a0 : Int))).setCell ⟨P, 2, none⟩ (.int .i64 e))) := Gp.set (Gp.set (Gp.set (Gro.refl _ w) 0 _) 1 _) 2 _
  refine callsD_of_wpS Tryz.func111 rfl fun c₀ cs hu => ?_
  apply wpS_seq
  apply wpS_region
  simp [wpOpsS, go_sem, recoverD, hu, Tryz.ntmps111, Exit.thenS]
  apply wpS_seq
  apply wpS_region
  simp [wpOpsS, go_sem, Exit.thenS]
  refine wpS_cond (t := true) (by simp [Act.eval, Array.replicate]) ?_
  simp only [if_true]
  refine wpS_of_wp ?_
  clear ha hr h
  have ht : ∀ w, (Instr.typeAssert (.iface GU (.int .i64 e)) 20 122 false).run Tryz.prog w = .ok (.int .i64 e) w := fun w => run_assert _ _ w
  generalize hq : (fun e_1 a' w' => bodyPostS Tryz.prog Tryz.f111 c₀ cs _ e_1 a' _ w') = Q
  change Code.wp Tryz.prog _ Q { tmps := #[.pointer (some ⟨qa, 0, none⟩), .pointer (some ⟨qr, 0, none⟩), .iface GU (.int .i64 e), .iface GU (.int .i64 e), .iface GU (.int .i64 e), .bool true, undef, undef, undef, undef, undef, undef, undef, undef, undef, undef, undef, undef], defers := [] } w
  go_region
  rw [← hq]
  clear hq ht
  have RF' := RF.out
  have GF' := GF.out
  simp [bodyPostS, results, Tryz.results111]
  exact ⟨RF', Gro.drewN GF' 1⟩

set_option maxRecDepth 100000 in
theorem idle_byte (p q : Addr) (w : World) :
    CallsD Tryz.prog 111 #[.pointer (some p), .pointer (some q)] .returning w fun e u' w' => e = .returned (.tuple #[]) ∧ u' = .returning ∧ w' = w := by
  refine callsD_of_wpS Tryz.func111 rfl fun c₀ cs hu => ?_
  apply wpS_seq
  apply wpS_region
  simp [wpOpsS, go_sem, recoverD, hu, Tryz.ntmps111, Exit.thenS]
  apply wpS_seq
  apply wpS_region
  simp [wpOpsS, go_sem, Exit.thenS]
  refine wpS_cond (t := false) (by simp [Act.eval, Array.replicate]) ?_
  simp only [Bool.false_eq_true, if_false]
  refine wpS_of_wp (wp_skip ?_)
  cases c₀
  simp_all [bodyPostS, results, Tryz.results111]

end Go.Proofs.YtaaehdlenigomaaGreat

namespace Go.Proofs.YtaaehdlenigomaaGreat
open Go Go.RowKit
open Sha

end Go.Proofs.YtaaehdlenigomaaGreat

namespace Go.Proofs.YtaaehdlenigomaaGreat
open Go Go.RowKit
open Sha

set_option maxRecDepth 100000 in
set_option maxHeartbeats 2000000 in
theorem take_byte (P : Nat) (A : Option Addr) (cap : Nat) (bs : List (BitVec 8)) (a : Nat) (f : Int) (v : Value) (a' : Nat) (w : World) (h : Rg w P A cap bs a)
    (hok : f = 0 → ∀ W, Rg W P A cap bs a → Calls Tryz.prog 68 #[.pointer (some ⟨P, 0, none⟩)] W fun e w' => e = .returned v ∧ Rg w' P A cap bs a' ∧ Gp P W w')
    (hno : ¬ f = 0 → ∀ W, Rg W P A cap bs a → Calls Tryz.prog 68 #[.pointer (some ⟨P, 0, none⟩)] W fun e w' => e = .panicked (gu f) ∧ Gave W w' P A cap bs) :
    Calls Tryz.prog 67 #[.pointer (some ⟨P, 0, none⟩), .func (.func 68) #[] #[]] w fun e w' => (f = 0 → e = .returned v ∧ Rg w' P A cap bs a') ∧ (¬ f = 0 → e = .returned (.int .u8 0) ∧ Rf w' P a f) ∧ Gp P w w' := by
  have hmf : ∀ (fn : Fn) (first cap : Array Value) (w : World), (Instr.makeFunc fn first cap).run Tryz.prog w = .ok (.func fn first cap) w := fun _ _ _ _ => rfl
  have b0 : Below w.heap.size w (w.alloc (Obj.cells #[.pointer (some ⟨P, 0, none⟩)] 61)) := (Below.refl _ _).alloc (Nat.le_refl _) _
  have b1 := b0.alloc b0.size (Obj.cells #[.int .i64 (a : Int)] 3)
  have HR0 : Hid (Rg (w.alloc (Obj.cells #[.pointer (some ⟨P, 0, none⟩)] 61)) P A cap bs a) := h.be b0
  have HE : Hid _ := err_ok P _ a 0 _ HR0.out.row
  have g1 := HR0.out.row.cell 1 _ rfl
  have HR1 : Hid (Rg ((w.alloc (Obj.cells #[.pointer (some ⟨P, 0, none⟩)] 61)).alloc (Obj.cells #[.int .i64 (a : Int)] 3)) P A cap bs a) := HR0.out.be ((Below.refl _ _).alloc (Nat.le_refl _) _)
  have RA : Hid (Row ((w.alloc (Obj.cells #[.pointer (some ⟨P, 0, none⟩)] 61)).alloc (Obj.cells #[.int .i64 (a : Int)] 3)) (w.heap.size + 1) [.int .i64 (a : Int)] 3) := Row.new' (by simp) rfl
  have RR : Hid (Row ((w.alloc (Obj.cells #[.pointer (some ⟨P, 0, none⟩)] 61)).alloc (Obj.cells #[.int .i64 (a : Int)] 3)) w.heap.size [.pointer (some ⟨P, 0, none⟩)] 61) := (Row.new' rfl rfl).alloc _
  have HB1 : Hid _ := b1
  have HP : Hid (P < w.heap.size) := h.row.lt
  clear h b0 b1
  by_cases hf : f = 0
  · have HK : Hid _ := hok hf _ HR1.out
    clear hok hno
    go_enter_defers Tryz.func67, Tryz.ntmps67
    go_wp2_with (go_at_call 110; refine Calls.mono HE.out ?_; rintro e w2 ⟨rfl, rfl⟩)
    refine Calls.mono HK.out ?_
    rintro e V ⟨rfl, hr, hg⟩
    have HR : Hid (Rg _ _ _ _ _ _) := hr
    have HG : Hid (Gro (fun k => k = P) w V) := (Gro.of_below HB1.out).trans hg
    clear hr hg HK
    go_wp2
    refine leaves_cons (f := 111) (args := #[.pointer (some ⟨w.heap.size + 1, 0, none⟩), .pointer (some ⟨w.heap.size, 0, none⟩)]) (by simp) (by simp [go_sem]) ?_
    refine (idle_byte ⟨w.heap.size + 1, 0, none⟩ ⟨w.heap.size, 0, none⟩ _).mono ?_
    rintro e u' w'' ⟨rfl, rfl, rfl⟩
    exact ⟨_, results_tmp rfl _ _ _, fun _ => ⟨rfl, HR.out⟩, fun q => absurd hf q, HG.out⟩
  · have HK : Hid _ := hno hf _ HR1.out
    clear hok hno
    go_enter_defers Tryz.func67, Tryz.ntmps67
    go_wp2_with (go_at_call 110; refine Calls.mono HE.out ?_; rintro e w2 ⟨rfl, rfl⟩)
    refine Calls.mono HK.out ?_
    rintro e V ⟨rfl, ⟨b, hr⟩, hg⟩
    have ra : Row V (w.heap.size + 1) [.int .i64 (a : Int)] 3 := hg.row RA.out (by have := HP.out; omega)
    have rr : Row V w.heap.size [.pointer (some ⟨P, 0, none⟩)] 61 := hg.row RR.out (by have := HP.out; omega)
    have HC : Hid _ := catch_byte (w.heap.size + 1) w.heap.size P a f _ (b : Int) V ra rr hr.row
    have HG : Hid (Gro (fun k => k = P) w V) := (Gro.of_below HB1.out).trans hg
    clear hr hg HK ra rr
    go_wp2
    refine leaves_cons (f := 111) (args := #[.pointer (some ⟨w.heap.size + 1, 0, none⟩), .pointer (some ⟨w.heap.size, 0, none⟩)]) (by simp) (by simp [go_sem]) ?_
    refine CallsD.mono HC.out ?_
    rintro e u' w'' ⟨rfl, rfl, hrf, hgf⟩
    have HRF : Hid (Rf _ _ _ _) := hrf
    have HGF : Hid (Gro (fun k => k = P) w w'') := HG.out.trans hgf
    clear hrf hgf
    simp [Leaves, settle, results, Tryz.results67, go_sem]
    exact ⟨fun q => absurd q hf, fun _ => HRF.out, HGF.out⟩

end Go.Proofs.YtaaehdlenigomaaGreat

namespace Go.Proofs.YtaaehdlenigomaaGreat
open Go Go.RowKit
open Sha

theorem sub_sl {w : World} {P : Nat} {A : Option Addr} {cap : Nat} {bs : List (BitVec 8)} {a n b c' : Nat} {A' : Option Addr} (h : Rg w P A cap bs b) (hl : a + n ≤ bs.length) (hc : n ≤ c') (hA : 0 < n → ∃ g, A = some ⟨g, 0, none⟩ ∧ A' = some ⟨g, a, none⟩) : SlAt w (.slice A' n c') (sub bs a n) := by
  by_cases h0 : n = 0
  · subst h0
    exact .inl ⟨by unfold sub; simp, A', c', rfl⟩
  · obtain ⟨g, eA, eA'⟩ := hA (by omega)
    have e := sub_len bs a n hl
    refine .inr ⟨g, a, c', by rw [e, eA'], by rw [e]; exact hc, fun j v hj => ?_⟩
    have hjl : j < n := by have := (List.getElem?_eq_some_iff.1 hj).1; rw [vB_length, e] at this; exact this
    obtain ⟨g', e1, gb⟩ := h.byte (a + j) (by omega)
    rw [eA] at e1
    simp only [Option.some.injEq, Addr.mk.injEq] at e1
    obtain ⟨rfl, _⟩ := e1
    rw [gb, ← hj]
    unfold vB
    rw [List.getElem?_map, sub_get bs a n j hjl, List.getElem?_eq_getElem (show a + j < bs.length by omega)]
    simp [List.getElem?_eq_getElem (show a + j < bs.length by omega)]

set_option maxRecDepth 100000 in
theorem seeBytes_no (P : Nat) (A : Option Addr) (cap : Nat) (bs : List (BitVec 8)) (a : Nat) (most : Int) (qm : Nat) (hf : ¬ cnE bs a most = 0) (w : World) (h : Rg w P A cap bs a) (hm : Row w qm [.int .i64 most] 3) :
    Calls Tryz.prog 107 #[.pointer (some ⟨P, 0, none⟩), .pointer (some ⟨qm, 0, none⟩)] w fun e w' => e = .panicked (gu (cnE bs a most)) ∧ Gave w w' P A cap bs := by
  have HC : Hid _ := seeCount_no P A cap bs a most _ rfl hf w h
  have cm := hm.cell 0 _ rfl
  clear h hm
  go_enter Tryz.func107, Tryz.ntmps107
  go_wp2_with fail
  refine Calls.mono HC.out ?_
  rintro e V ⟨rfl, hr⟩
  have HR : Hid (Gave _ _ _ _ _ _) := hr
  clear hr HC cm
  go_wp2_with fail
  exact ⟨rfl, rfl, HR.out⟩

/-- Bytes that came out. -/
def Bo (N : Nat) (d : List (BitVec 8)) (n : Nat) (W : World) (v : Value) : Prop := ∃ A c, v = .slice A n c ∧ Bw W (.slice A n c) d ∧ Fresh N (.slice A n c) ∧ (A = none → c = 0)

set_option maxRecDepth 100000 in
set_option maxHeartbeats 1000000 in
theorem seeBytes_any (P : Nat) (A : Option Addr) (cap : Nat) (bs : List (BitVec 8)) (a : Nat) (most : Int) (qm : Nat) (hf : cnE bs a most = 0) (N : Nat) (w : World) (hN : N ≤ w.heap.size) (h : Rg w P A cap bs a) (hm : Row w qm [.int .i64 most] 3) :
    Calls Tryz.prog 107 #[.pointer (some ⟨P, 0, none⟩), .pointer (some ⟨qm, 0, none⟩)] w fun e w' => ∃ v, e = .returned v ∧ Bo N (sub bs (a + 1 + at8 bs a) (nuW bs a)) (nuW bs a) w' v ∧ Rg w' P A cap bs (a + 1 + at8 bs a + nuW bs a) ∧ Gp P w w' := by
  have HC : Hid _ := seeCount_any P A cap bs a most hf w h
  obtain ⟨h1, h2, h3⟩ := cnE_ok hf
  have hlen := h.len
  have cm := hm.cell 0 _ rfl
  have HLE : Hid (a + 1 + at8 bs a + nuW bs a ≤ bs.length) := h3
  have hn4 : nuW bs a ≤ 4194304 := by omega
  have HN0 : Hid (N ≤ w.heap.size) := hN
  clear h hm h1 h2 h3 hf hlen hN
  generalize nuW bs a = n at *
  generalize a + 1 + at8 bs a = a1 at *
  obtain ⟨d, hd⟩ : ∃ d, d = sub bs a1 n := ⟨_, rfl⟩
  have HD : Hid (d = sub bs a1 n) := hd
  have HDL : Hid (d.length = n) := by show _ = _; rw [hd, sub_len bs a1 n HLE.out]
  rw [← hd]
  clear hd
  go_enter Tryz.func107, Tryz.ntmps107
  go_wp2_with fail
  refine Calls.mono HC.out ?_
  rintro e V ⟨rfl, hr, hg⟩
  have HR : Hid (Rg _ _ _ _ _ _) := hr
  have HG : Hid (Gro _ _ _) := hg
  clear hr hg HC cm
  go_wp2_with fail
  refine Calls.mono (next_any P A cap bs a1 n HLE.out V HR.out) ?_
  rintro e V2 ⟨A', c', rfl, hc', hnil, hA', m, hw⟩
  have HR2 : Hid (Rg V2 P A cap bs (a1 + n)) := by rw [hw]; exact (HR.out.move _ HLE.out).drewN m
  have HG2 : Hid (Gp P w V2) := by rw [hw]; exact (Gp.set HG.out 1 _).drewN m
  have HV : Hid (SlAt V2 (.slice A' n c') d) := by rw [HD.out]; exact sub_sl HR2.out HLE.out hc' hA'
  have HNL : Hid (A' = none → c' = 0) := hnil
  have HL : Hid (([] : List (BitVec 8)).length + n ≤ 140737488355328) := by show 0 + _ ≤ _; omega
  clear hw hA' HR HG hc' hnil
  go_wp2_with (refine wpList_app rfl _ (.tmp 8) rfl (.slice none 0 0) [] d rfl (Bw.nil V2) A' n c' HDL.out rfl HV.out HNL.out HL.out ?_; intro v' w' q1 q2 q3; have Q1 : Hid _ := q1; have Q2 : Hid _ := q2; have Q3 : Hid _ := q3; clear q1 q2 q3; simp only [Act.put, List.setIfInBounds_toArray, List.set_cons_zero, List.set_cons_succ])
  go_ret
  obtain ⟨Ax, cx, ex, _, hxn⟩ := Bw.form Q1.out
  have q1 := Q1.out
  rw [ex] at q1
  rw [List.nil_append] at ex q1
  have bB : Below V2.heap.size V2 w' := (Below.refl _ _).grown Q2.out (Nat.le_refl _) (fun k hk => by simp [Value.ownBlock] at hk)
  refine ⟨_, rfl, ⟨Ax, cx, by show v' = _; rw [ex, HDL.out], by rw [← HDL.out]; exact q1, fun g e => ?_, hxn⟩, HR2.out.be bB, HG2.out.below bB⟩
  have e' : v'.ownBlock = some g := by rw [ex, HDL.out]; exact e
  rcases Q3.out with q | q
  · rw [e'] at q; simp [Value.ownBlock] at q
  · rw [e'] at q
    simp only [Option.some.injEq] at q
    have := HN0.out
    have := HG2.out.size
    omega

theorem seeByte_x0 (P : Nat) (A : Option Addr) (cap : Nat) (bs : List (BitVec 8)) (a : Nat) (hf : byE bs a = 0) (w : World) (h : Rg w P A cap bs a) :
    Calls Tryz.prog 68 #[.pointer (some ⟨P, 0, none⟩)] w fun e w' => e = .returned (.int .u8 ((at8 bs a : Nat) : Int)) ∧ Rg w' P A cap bs (a + 1) ∧ Gp P w w' := by
  unfold byE at hf
  have h1 : ¬ bs.length ≤ a := fun h1 => by rw [if_pos h1] at hf; cases hf
  refine (seeByte_any P A cap bs a (by omega) w h).mono ?_
  rintro e w' ⟨rfl, m, rfl⟩
  exact ⟨rfl, (h.move (a + 1) (by omega)).drewN m, Gro.drewN (Gp.set (Gro.refl _ _) 1 _) m⟩
theorem seeByte_x1 (P : Nat) (A : Option Addr) (cap : Nat) (bs : List (BitVec 8)) (a : Nat) (hf : ¬ byE bs a = 0) (w : World) (h : Rg w P A cap bs a) :
    Calls Tryz.prog 68 #[.pointer (some ⟨P, 0, none⟩)] w fun e w' => e = .panicked (gu (byE bs a)) ∧ Gave w w' P A cap bs := by
  unfold byE at hf ⊢
  by_cases h1 : bs.length ≤ a
  · rw [if_pos h1]
    refine (seeByte_no P A cap bs a h1 w h).mono ?_
    rintro e w' ⟨rfl, m, rfl⟩
    exact ⟨rfl, Gave.of (h.drewN m) (Gro.drewN (Gro.refl _ _) m)⟩
  · rw [if_neg h1] at hf
    exact absurd rfl hf

end Go.Proofs.YtaaehdlenigomaaGreat
