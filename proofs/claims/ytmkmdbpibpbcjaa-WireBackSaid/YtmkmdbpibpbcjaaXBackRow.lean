/-
  The law WireBack: its row.
-/
import Derived.Test.YtmkmdbpibpbcjaaXBackB

namespace Go.Proofs.Ytmkmdbpibpbcjaa
open Go Go.RowKit
open Sha

def szS (s : SV) : Nat := 64 + 4 * s.d.length + 10 * s.ns.length
def totS (m : SV) (ss : List SV) : Nat → Nat
  | 0 => szS m
  | t + 1 => totS m ss t + szS (ss.getD t sv0)
def catS (ss : List SV) : Nat → List (BitVec 8)
  | 0 => []
  | t + 1 => catS ss t ++ foS (ss.getD t sv0)
theorem cat_le (m : SV) (ss : List SV) : ∀ t, (catS ss t).length + szS m ≤ totS m ss t
  | 0 => by simp [catS, totS]
  | t + 1 => by
    have := cat_le m ss t
    have h := foS_size (ss.getD t sv0)
    simp only [catS, totS, List.length_append]
    unfold szS at *
    omega
theorem tot_mono (m : SV) (ss : List SV) (t : Nat) : ∀ k, totS m ss t ≤ totS m ss (t + k)
  | 0 => Nat.le_refl _
  | k + 1 => Nat.le_trans (tot_mono m ss t k) (Nat.le_add_right _ _)
theorem cat_more (ss : List SV) (t : Nat) : ∀ k, ∃ Z, catS ss (t + 1 + k) = catS ss t ++ (foS (ss.getD t sv0) ++ Z)
  | 0 => ⟨[], by simp [catS]⟩
  | k + 1 => by
    obtain ⟨Z, hZ⟩ := cat_more ss t k
    exact ⟨Z ++ foS (ss.getD (t + 1 + k) sv0), by rw [← Nat.add_assoc]; show catS ss (t + 1 + k) ++ _ = _; rw [hZ]; simp only [List.append_assoc]⟩
theorem cat_at (ss : List SV) (n t : Nat) (h : t < n) : (catS ss t).length + (foS (ss.getD t sv0)).length ≤ (catS ss n).length ∧ sub (catS ss n) (catS ss t).length (foS (ss.getD t sv0)).length = foS (ss.getD t sv0) := by
  obtain ⟨Z, hZ⟩ := cat_more ss t (n - (t + 1))
  rw [show t + 1 + (n - (t + 1)) = n by omega] at hZ
  have hl := congrArg List.length hZ
  rw [List.length_append, List.length_append] at hl
  refine ⟨by omega, ?_⟩
  have := sub_in (catS ss n) 0 (catS ss n).length (catS ss t) (foS (ss.getD t sv0)) Z (by unfold sub; rw [List.drop_zero, List.take_length]; exact hZ)
  rw [Nat.zero_add] at this
  exact this

set_option maxRecDepth 100000 in
set_option maxHeartbeats 8000000 in
theorem back_walk (A : Option Addr) (n cap : Nat) (ss : List SV) (hn : n ≤ 1466015503658) (m : SV) (w : World) (hS : Sps w A n ss) (hm : m.ok w) :
    Calls Try.prog 6 #[.slice A n cap, .agg (sc m.K m.N (.slice m.B m.d.length m.cb) m.m0 m.m1 m.m2 m.m3 (.slice m.L m.ns.length m.cl)).toArray] w fun e w' => e = .returned (.bool true) ∧ Below w.heap.size w w' := by
  have b1 : Below w.heap.size w (w.alloc (Obj.cells (sc m.K m.N (.slice m.B m.d.length m.cb) m.m0 m.m1 m.m2 m.m3 (.slice m.L m.ns.length m.cl)).toArray 33)) := (Below.refl _ _).alloc (Nat.le_refl _) _
  have r1 : Row (w.alloc (Obj.cells (sc m.K m.N (.slice m.B m.d.length m.cb) m.m0 m.m1 m.m2 m.m3 (.slice m.L m.ns.length m.cl)).toArray 33)) w.heap.size (sc m.K m.N (.slice m.B m.d.length m.cb) m.m0 m.m1 m.m2 m.m3 (.slice m.L m.ns.length m.cl)) 33 := Row.new' rfl rfl
  have HS : Hid (Sps (w.alloc (Obj.cells (sc m.K m.N (.slice m.B m.d.length m.cb) m.m0 m.m1 m.m2 m.m3 (.slice m.L m.ns.length m.cl)).toArray 33)) A n ss) := hS.be b1
  have HM : Hid (m.ok (w.alloc (Obj.cells (sc m.K m.N (.slice m.B m.d.length m.cb) m.m0 m.m1 m.m2 m.m3 (.slice m.L m.ns.length m.cl)).toArray 33))) := hm.be b1
  have HB : Hid (Below w.heap.size w (w.alloc (Obj.cells (sc m.K m.N (.slice m.B m.d.length m.cb) m.m0 m.m1 m.m2 m.m3 (.slice m.L m.ns.length m.cl)).toArray 33))) := b1
  have R1 : Hid (Row (w.alloc (Obj.cells (sc m.K m.N (.slice m.B m.d.length m.cb) m.m0 m.m1 m.m2 m.m3 (.slice m.L m.ns.length m.cl)).toArray 33)) w.heap.size (sc m.K m.N (.slice m.B m.d.length m.cb) m.m0 m.m1 m.m2 m.m3 (.slice m.L m.ns.length m.cl)) 33) := r1
  clear b1 r1 hS hm
  go_enter Try.func6, Try.ntmps6
  go_wp2_with fail
  generalize (w.alloc (Obj.cells (sc m.K m.N (.slice m.B m.d.length m.cb) m.m0 m.m1 m.m2 m.m3 (.slice m.L m.ns.length m.cl)).toArray 33)) = Y at *
  refine Calls.mono (newWriter_any Y) ?_
  rintro e W1 ⟨rfl, hw1, hb1⟩
  have WK1 : Hid (Wk Y W1 Y.heap.size none 0 ([], 0)) := ⟨hw1, (fun g e => by simp [Value.ownBlock] at e), Nat.le_refl _, by decide, hb1⟩
  clear hw1 hb1
  go_wp2_with fail
  refine Calls.mono (known_any W1) ?_
  rintro e W2 ⟨rfl, hb2⟩
  have WK2 : Hid (Wk Y W2 Y.heap.size none 0 ([], 0)) := WK1.out.be hb2
  clear hb2 WK1
  have RM : Hid (∀ W, Below Y.heap.size Y W → W.rangeAt w.heap.size 0 (sc m.K m.N (.slice m.B m.d.length m.cb) m.m0 m.m1 m.m2 m.m3 (.slice m.L m.ns.length m.cl))) := fun W hB => (Row.below R1.out hB (Row.lt R1.out)).all
  have RM2 : Hid _ := RM.out W2 WK2.out.below
  have HSZ : Hid _ := size_any m.K m.N m.B m.d.length m.cb m.m0 m.m1 m.m2 m.m3 m.L m.ns.length m.cl HM.out.dl (by have := HM.out.ll; omega) W2
  rw [show 64 + 4 * m.d.length + 10 * m.ns.length = totS m ss 0 from rfl] at HSZ
  clear R1
  go_wp2_with (first
    | (refine wpList_load_w rfl 33 (.tmp 3) rfl w.heap.size 0 rfl (sc m.K m.N (.slice m.B m.d.length m.cb) m.m0 m.m1 m.m2 m.m3 (.slice m.L m.ns.length m.cl)) _ RM2.out Try.underlying33 rfl info_st ?_; simp only [Act.put, List.setIfInBounds_toArray, List.set_cons_zero, List.set_cons_succ])
    | (go_at_call 20; refine Calls.mono HSZ.out ?_; rintro e W3 ⟨rfl, hb3⟩; have WK3 : Hid (Wk Y W3 Y.heap.size none 0 ([], 0)) := WK2.out.be hb3; clear hb3))
  clear WK2 RM2 HSZ
  go_loopw [6, 7] (fun al i wr => ∃ t : Nat, t ≤ n ∧ al = .int .i64 ((totS m ss t : Nat) : Int) ∧ i = .int .i64 (t : Int) ∧ Below Y.heap.size Y wr ∧ (totS m ss t ≤ 4194304 → ∃ A' cap', Wk Y wr Y.heap.size A' cap' (catS ss t, 0))) (fun _ i _ => n - (intOf i).toNat)
  case atStart => exact ⟨0, Nat.zero_le _, rfl, rfl, WK3.out.below, fun _ => ⟨none, 0, WK3.out⟩⟩
  case round =>
    clear WK3
    obtain ⟨t, ht, rfl, rfl, hbw, hwk⟩ := hrel
    have HBW : Hid (Below Y.heap.size Y wr) := hbw
    have HBF : Hid (Below w.heap.size w wr) := HB.out.trans (hbw.mono HB.out.size)
    by_cases hle : totS m ss t ≤ 4194304
    · obtain ⟨A', cap', hk⟩ := hwk hle
      have WK : Hid (Wk Y wr Y.heap.size A' cap' (catS ss t, 0)) := hk
      clear hwk hk hbw
      by_cases hlt : t < n
      · obtain ⟨b, o, rfl, hc⟩ := HS.out.at' (by omega)
        obtain ⟨s, hs⟩ : ∃ s, s = ss.getD t sv0 := ⟨_, rfl⟩
        have HOK : Hid (s.ok Y) := by rw [hs]; exact HS.out.each t hlt
        have RS : Hid (∀ W, Below Y.heap.size Y W → W.rangeAt b (o + t * 8) (sc s.K s.N (.slice s.B s.d.length s.cb) s.m0 s.m1 s.m2 s.m3 (.slice s.L s.ns.length s.cl))) := fun W hB j v hj => cell_be (hc t hlt j v (by rw [← hs]; exact hj)) hB
        have RS1 : Hid _ := RS.out wr HBW.out
        have HSZ : Hid _ := size_any s.K s.N s.B s.d.length s.cb s.m0 s.m1 s.m2 s.m3 s.L s.ns.length s.cl HOK.out.dl (by have := HOK.out.ll; omega) wr
        have hS6 : szS s ≤ 1000000000000000000 := by unfold szS; have := HOK.out.ll; have := HOK.out.dl; omega
        rw [show 64 + 4 * s.d.length + 10 * s.ns.length = szS s from rfl] at HSZ
        have ETOT : Hid (((totS m ss (t + 1) : Nat) : Int) = ((totS m ss t : Nat) : Int) + ((szS s : Nat) : Int)) := by show _ = _; rw [hs]; simp only [totS]; omega
        have ETN : Hid (totS m ss (t + 1) = totS m ss t + szS s) := by show _ = _; rw [hs]; rfl
        have ECAT : Hid (catS ss (t + 1) = catS ss t ++ foS s) := by show _ = _; rw [hs]; rfl
        have HLEN : Hid ((catS ss t).length + (foS s).length + szS m ≤ totS m ss t + szS s) := by
          show _ ≤ _
          have := cat_le m ss t
          have := foS_size s
          unfold szS at *
          omega
        have HLY : Hid (∀ W, totS m ss t + szS s ≤ 4194304 → Wk Y W Y.heap.size A' cap' (catS ss t, 0) → _) := fun W hTS hW => lays_any Y Y.heap.size A' cap' (catS ss t) s HOK.out (by unfold szS at hTS; omega) (by have := HLEN.out; omega) W hW
        have HCI : Hid ((Try.prog.info? 33).map (·.size) = some (sc s.K s.N (.slice s.B s.d.length s.cb) s.m0 s.m1 s.m2 s.m3 (.slice s.L s.ns.length s.cl)).length) := info_st
        clear hs hc
        generalize (sc s.K s.N (.slice s.B s.d.length s.cb) s.m0 s.m1 s.m2 s.m3 (.slice s.L s.ns.length s.cl)) = cs at *
        generalize szS s = S at *
        generalize totS m ss t = T at *
        by_cases h2 : T + S ≤ 4194304
        · have H2 : Hid (T + S ≤ 4194304) := h2
          go_wp2_with (first
            | (refine wpList_load_w rfl 33 (.tmp 34) rfl b (o + t * 8) rfl cs _ RS1.out Try.underlying33 rfl HCI.out ?_; simp only [Act.put, List.setIfInBounds_toArray, List.set_cons_zero, List.set_cons_succ])
            | (go_at_call 20; refine Calls.mono HSZ.out ?_; rintro e W5 ⟨rfl, hb5⟩; have WK5 : Hid (Wk Y W5 Y.heap.size A' cap' (catS ss t, 0)) := WK.out.be hb5; have RS5 : Hid _ := RS.out W5 WK5.out.below; have HL5 : Hid _ := HLY.out W5 H2.out WK5.out; clear hb5)
            | (refine wpList_load_w rfl 33 (.tmp 43) rfl b (o + t * 8) rfl cs _ RS5.out Try.underlying33 rfl HCI.out ?_; simp only [Act.put, List.setIfInBounds_toArray, List.set_cons_zero, List.set_cons_succ])
            | (go_at_call 21; refine Calls.mono HL5.out ?_; rintro e W6 ⟨rfl, A6, c6, h6⟩; have WK6 : Hid (Wk Y W6 Y.heap.size A6 c6 (catS ss t ++ foS s, 0)) := h6; clear h6))
          exact ⟨⟨t + 1, hlt, by rw [ETOT.out], by go_num, WK6.out.below, fun _ => ⟨A6, c6, by rw [ECAT.out]; exact WK6.out⟩⟩, by simp [intOf]; omega⟩
        · go_wp2_with (first
            | (refine wpList_load_w rfl 33 (.tmp 34) rfl b (o + t * 8) rfl cs _ RS1.out Try.underlying33 rfl HCI.out ?_; simp only [Act.put, List.setIfInBounds_toArray, List.set_cons_zero, List.set_cons_succ])
            | (go_at_call 20; refine Calls.mono HSZ.out ?_; rintro e W5 ⟨rfl, hb5⟩; have WK5 : Hid (Wk Y W5 Y.heap.size A' cap' (catS ss t, 0)) := WK.out.be hb5; clear hb5))
          exact ⟨⟨t + 1, hlt, by rw [ETOT.out], by go_num, WK5.out.below, fun q => absurd (by rw [ETN.out] at q; exact q) h2⟩, by simp [intOf]; omega⟩
      · obtain rfl : t = n := by omega
        have HTT : Hid (totS m ss t ≤ 4194304) := hle
        have HCL : Hid ((catS ss t).length ≤ 4194304) := by have := WK.out.len; exact this
        have HDN : Hid _ := done_ok Y.heap.size A' cap' (catS ss t) (Nat.le_trans HCL.out (by decide)) wr WK.out.wr
        have EBS : Hid (catS ss t = catS ss t) := rfl
        obtain ⟨bs, hbs⟩ : ∃ bs, bs = catS ss t := ⟨_, rfl⟩
        have HBS : Hid (bs = catS ss t) := hbs
        rw [← hbs] at HCL HDN
        generalize totS m ss t = T at hle ⊢
        clear hbs EBS WK
        go_wp2_with fail
        refine Calls.mono HDN.out ?_
        rintro e W3 ⟨A3, c3, rfl, hb3w, _, hb3⟩
        have hni : A3 = none → c3 = 0 := by
          obtain ⟨A', c', e', _, hz⟩ := Bw.form hb3w
          simp only [Value.slice.injEq] at e'
          obtain ⟨rfl, _, rfl⟩ := e'
          exact hz
        have HNR : Hid _ := newReader_g A3 bs.length c3 bs rfl HCL.out hni W3 (Bw.sl hb3w)
        have B3 : Hid (Below Y.heap.size Y W3) := HBW.out.trans (hb3.mono HBW.out.size)
        clear hb3w hb3 hni HDN
        go_wp2_with fail
        refine Calls.mono HNR.out ?_
        rintro e V ⟨P, Ar, capr, rfl, hrg, hPP, _, hb4⟩
        have B4 : Hid (Below Y.heap.size Y V) := B3.out.trans (hb4.mono B3.out.size)
        have HPP : Hid (Y.heap.size ≤ P) := by show _ ≤ _; have := B3.out.size; omega
        have RG : Hid (Rg V P Ar capr bs 0) := hrg
        clear hrg hb4 hPP HNR B3
        go_wp2_with fail
        go_loopw [11] (fun i wr2 => ∃ k : Nat, k ≤ t ∧ i = .int .i64 (k : Int) ∧ Rg wr2 P Ar capr bs (catS ss k).length ∧ Gp P V wr2) (fun i _ => t - (intOf i).toNat)
        case atStart => exact ⟨0, Nat.zero_le _, rfl, RG.out, Gro.refl _ _⟩
        case round =>
          clear RG HBF HBW
          rename World => wq
          obtain ⟨k, hk, rfl, hrg, hgp⟩ := hrel
          have BR : Hid (Below Y.heap.size Y wq) := B4.out.trans (Gro.to_below hgp B4.out.size (fun q e => by rw [e]; exact HPP.out))
          have RG : Hid (Rg _ _ _ _ _ _) := hrg
          have GP : Hid (Gp P V wq) := hgp
          by_cases hlt2 : k < t
          · obtain ⟨b, o, rfl, hc⟩ := HS.out.at' (by omega)
            obtain ⟨s, hs⟩ : ∃ s, s = ss.getD k sv0 := ⟨_, rfl⟩
            have HOK : Hid (s.ok Y) := by rw [hs]; exact HS.out.each k hlt2
            have RS1 : Hid (wq.rangeAt b (o + k * 8) (sc s.K s.N (.slice s.B s.d.length s.cb) s.m0 s.m1 s.m2 s.m3 (.slice s.L s.ns.length s.cl))) := fun j v hj => cell_be (hc k hlt2 j v (by rw [← hs]; exact hj)) BR.out
            have hcat := cat_at ss t k hlt2
            rw [← hs, ← HBS.out] at hcat
            have hsz : szS s ≤ 4194304 := by
              have h1 := tot_mono m ss (k + 1) (t - (k + 1))
              rw [show k + 1 + (t - (k + 1)) = t by omega] at h1
              have h2 : totS m ss (k + 1) = totS m ss k + szS s := by rw [hs]; rfl
              have := HTT.out
              omega
            have HTK : Hid _ := takes_any Y P Ar capr bs (catS ss k).length s HOK.out hsz HPP.out hcat.1 hcat.2 wq BR.out hrg
            have ECAT : Hid ((catS ss k).length + (foS s).length = (catS ss (k + 1)).length) := by show _ = _; rw [hs]; simp only [catS, List.length_append]
            rw [ECAT.out] at HTK
            have HCI : Hid ((Try.prog.info? 33).map (·.size) = some (sc s.K s.N (.slice s.B s.d.length s.cb) s.m0 s.m1 s.m2 s.m3 (.slice s.L s.ns.length s.cl)).length) := info_st
            clear hs hc hcat hsz hrg hgp
            generalize (sc s.K s.N (.slice s.B s.d.length s.cb) s.m0 s.m1 s.m2 s.m3 (.slice s.L s.ns.length s.cl)) = cs at *
            go_wp2_with (first
              | (refine wpList_load_w rfl 33 (.tmp 68) rfl b (o + k * 8) rfl cs _ RS1.out Try.underlying33 rfl HCI.out ?_; simp only [Act.put, List.setIfInBounds_toArray, List.set_cons_zero, List.set_cons_succ])
              | (go_at_call 24; refine Calls.mono HTK.out ?_; rintro e W6 ⟨rfl, hr6, hg6⟩; have RG6 : Hid (Rg W6 P Ar capr bs (catS ss (k + 1)).length) := hr6; have HE6 : Hid _ := err_ok P _ _ 0 W6 hr6.row; have GP6 : Hid (Gp P V W6) := GP.out.trans hg6; clear hr6 hg6)
              | (go_at_call 15; refine Calls.mono HE6.out ?_; rintro e w3 ⟨rfl, hq⟩; obtain rfl := hq.symm))
            exact ⟨⟨k + 1, hlt2, by go_num, RG6.out, GP6.out⟩, by simp [intOf]; omega⟩
          · have ekt : k = t := by omega
            rw [ekt, ← HBS.out] at hrg
            have HMB : Hid (4 * m.d.length ≤ 4194304) := by
              show _ ≤ _
              have h1 := tot_mono m ss 0 t
              rw [Nat.zero_add] at h1
              have h2 : totS m ss 0 = 64 + 4 * m.d.length + 10 * m.ns.length := rfl
              have := HTT.out
              omega
            have HEN : Hid _ := end_full P Ar capr bs wq hrg
            have RGE : Hid (Rg wq P Ar capr bs bs.length) := hrg
            clear hrg hgp GP RG ekt
            go_wp2_with fail
            refine Calls.mono HEN.out ?_
            rintro e W7 ⟨rfl, q, hq⟩
            have hr7 : Rg W7 P Ar capr bs bs.length := (by rw [hq]; exact RGE.out.drewN q)
            have HA7 : Hid _ := at_any P _ _ 0 W7 hr7.row
            have B7 : Hid (Below Y.heap.size Y W7) := by (rw [hq]; exact be_dr BR.out q)
            have RM7 : Hid _ := RM.out W7 B7.out
            have HBD : Hid _ := bounded_true m.K m.N m.B m.d.length m.cb m.m0 m.m1 m.m2 m.m3 m.L m.ns.length m.cl m.d rfl HMB.out HM.out.nil W7 (HM.out.be B7.out).sl
            clear hq hr7
            go_wp2_with fail
            refine Calls.mono HA7.out ?_
            rintro e w3 ⟨rfl, hq⟩
            obtain rfl := hq.symm
            go_wp2_with (first
              | (refine wpList_load_w rfl 33 (.tmp 3) rfl w.heap.size 0 rfl (sc m.K m.N (.slice m.B m.d.length m.cb) m.m0 m.m1 m.m2 m.m3 (.slice m.L m.ns.length m.cl)) _ RM7.out Try.underlying33 rfl info_st ?_; simp only [Act.put, List.setIfInBounds_toArray, List.set_cons_zero, List.set_cons_succ])
              | (go_at_call 25; refine Calls.mono HBD.out ?_; rintro e W8 ⟨rfl, hb8⟩; have B8 : Hid (Below W7.heap.size W7 W8) := hb8; clear hb8))
            go_ret
            exact ⟨rfl, HB.out.trans ((B7.out.trans (B8.out.mono B7.out.size)).mono HB.out.size)⟩
    · have hgt : ((4194304 : Nat) : Int) < ((totS m ss t : Nat) : Int) := by omega
      generalize totS m ss t = T at *
      clear hwk hbw
      by_cases hlt : t < n
      · go_wp2_with fail
        go_ret
        exact ⟨rfl, HBF.out⟩
      · obtain rfl : t = n := by omega
        go_wp2_with fail
        go_ret
        exact ⟨rfl, HBF.out⟩

end Go.Proofs.Ytmkmdbpibpbcjaa

namespace Go.Proofs.Ytmkmdbpibpbcjaa.xbk
open Go Go.RowKit Go.ChangeShapes Go.WideShapes Go.ChangeAt
open Sha

set_option maxRecDepth 100000 in
theorem contract (H : Type) (enc : TypeId × Value → H) (W : World) (base : Nat) (args : Array Value) (ds gs : List (DataW H)) (before : List MemPlace)
    (hval : ∀ (j : Nat) t v, Try.f6.params[j]? = some t → args[j]? = some v → Value.okWide Try.prog W .any base t v)
    (hW : DataW.Whole enc Try.prog Try.f6.params.toList Rows.wireBackSpec.vars false W args.toList ds gs before)
    (hsz : (DataW.weightsEach Try.prog (Try.f6.params.toList ++ (OpenSpec.ofChange Rows.wireBackSpec).bare.plain.varTypes Try.prog) (ds ++ gs)).all (· ≤ reachBytes) = true) :
    Calls Try.prog 6 args W fun e W' => ∃ v, e = .returned v ∧ Rows.wireBackSpec.post enc Try.prog Try.f6 false true false false W args v W' := by
  have hW' := hW
  obtain ⟨p, q, hA0, hV, rfl, hfz, hnd⟩ := hW
  have hA : DataW.TrodAll enc Try.prog W 0 (fun _ => true) true Try.f6.params.toList args.toList ds p := hA0
  rw [Try.params6] at hA hval hsz
  obtain ⟨v0, vs0, d0, ds0, p0, q0, hargs, rfl, rfl, h0, r0⟩ := trodAll_cons hA
  obtain ⟨v1, vs1, d1, ds1, p1, q1, rfl, rfl, rfl, h1, r1⟩ := trodAll_cons r0
  obtain ⟨rfl, rfl, rfl⟩ := trodAll_nil r1
  obtain rfl : args = #[v0, v1] := by cases args; simp_all
  obtain ⟨rfl, rfl⟩ := trodVars_none hV
  have k0 := h0
  have lt0 : ∀ x ∈ p0, x.block < W.heap.size := by obtain ⟨m, hm⟩ := k0; exact DataW.trod_lt m _ _ _ hm
  obtain ⟨a0, len0, cap0, rfl⟩ := okWide_slice Try.underlying23 (hval 0 23 v0 rfl rfl)
  obtain ⟨ss0, hs0, hl0⟩ := (fun ⟨fuel, hf⟩ => steps_in (j := 0) hf hsz rfl rfl : (∃ _, _) → _) h0
  have k1 := h1
  have lt1 : ∀ x ∈ p1, x.block < W.heap.size := by obtain ⟨m, hm⟩ := k1; exact DataW.trod_lt m _ _ _ hm
  obtain ⟨ca1, rfl, hca1⟩ := okWide_struct Try.underlying33 (hval 1 33 v1 rfl rfl)
  rw [cellsStep] at hca1
  obtain ⟨s1, es1, ok1⟩ := (fun ⟨fuel, hf⟩ => step_f (by simpa [Value.cells] using hca1) hf : (∃ _, _) → _) h1
  replace ok1 := ok1 (fun mm hmm => of_decide_eq_true (List.all_eq_true.1 hsz mm (DataW.weights_mem_each (j := 1) (t := 33) rfl rfl _ hmm)))
  obtain rfl : ca1 = s1.cells.toArray := by rw [← es1]; simp [Value.cells]
  clear hA0
  refine (back_walk a0 len0 cap0 ss0 hl0 s1 W hs0 ok1).mono fun e W' ⟨he, bel⟩ => ?_
  subst he
  exact ⟨_, rfl, _, _, _, [], _, [], hW', trodAll_mk1 (shut_bool Try.underlying4 _), (trodAll_cons_mk (Below.trod laidOut (by kernel_rfl) (of_decide_eq_true (by kernel_rfl)) k0 bel lt0) (trodAll_cons_mk (Below.trod laidOut (by kernel_rfl) (of_decide_eq_true (by kernel_rfl)) k1 bel lt1) trodAll_mk0)), rfl, bel.frame _, fun h => by cases h⟩

theorem laid_met (os : Os) : laidMet Try.prog Rows.wireBackRow.laid (({ World.holding Try.prog os ⟨#[], #[], []⟩ with heap := (World.holding Try.prog os ⟨#[], #[], []⟩).heap } : World).forCall (fun _ _ => 0) ⟨#[], #[.slice none 0 0, .agg #[.int .i64 0, .int .i64 0, .slice none 0 0, .int .u64 0, .int .u64 0, .int .u64 0, .int .u64 0, .slice none 0 0]], []⟩).memory :=
  laidMet_of_run' 8 (by kernel_rfl) (by kernel_rfl)
theorem reads (os : Os) {H : Type} (enc : TypeId × Value → H) : ∃ places, DataW.whole enc Try.prog (({ World.holding Try.prog os ⟨#[], #[], []⟩ with heap := (World.holding Try.prog os ⟨#[], #[], []⟩).heap } : World).forCall (fun _ _ => 0) ⟨#[], #[.slice none 0 0, .agg #[.int .i64 0, .int .i64 0, .slice none 0 0, .int .u64 0, .int .u64 0, .int .u64 0, .int .u64 0, .slice none 0 0]], []⟩).memory Try.f6.params.toList Rows.wireBackSpec.vars false (#[.slice none 0 0, .agg #[.int .i64 0, .int .i64 0, .slice none 0 0, .int .u64 0, .int .u64 0, .int .u64 0, .int .u64 0, .slice none 0 0]] : Array Value).toList 8 = some ([.nil, .agg [.lit (.int .i64 0), .lit (.int .i64 0), .nil, .agg [.lit (.int .u64 0), .lit (.int .u64 0), .lit (.int .u64 0), .lit (.int .u64 0)], .nil]], [], places) :=
  ⟨[], by kernel_rfl⟩

set_option maxRecDepth 100000 in
theorem lifted (os : Os) (started : os.Started) (H : Type) (enc : TypeId × Value → H) (F : Stop.Interp) :
    ReturnsInHanded {} Try.checked os 6 .any ((OpenSpec.ofChange Rows.wireBackSpec).preRow enc Try.prog Try.f6 Rows.wireBackRow.domain false Rows.wireBackRow.laid) (((OpenSpec.ofChange Rows.wireBackSpec).at F).post enc Try.prog Try.f6 false true false false) := by
  obtain ⟨places, hx⟩ := reads os enc
  refine returnsInHanded_of_row (C := Try.checked) (s := OpenSpec.ofChange Rows.wireBackSpec) own started (by kernel_rfl) Try.func6
    (witness_row_at (enc := enc) (C := Try.checked) false ({ World.holding Try.prog os ⟨#[], #[], []⟩ with heap := (World.holding Try.prog os ⟨#[], #[], []⟩).heap } : World) #[.slice none 0 0, .agg #[.int .i64 0, .int .i64 0, .slice none 0 0, .int .u64 0, .int .u64 0, .int .u64 0, .int .u64 0, .slice none 0 0]] rfl (by kernel_rfl) (by kernel_rfl) (by kernel_rfl)
      (OpenSpec.preRow_of_cond 8 hx (by kernel_rfl) (fun k hk => by cases hk) (by kernel_rfl) (laid_met os))) ?_
  intro W base args ds gs before hval hW _ hc hsz hL _ _
  exact contract H enc W base args ds gs before hval hW hsz

theorem said : Rows.WireBackSaid :=
  OpenClaim.holds_of_cond 6 Try.f6 rfl rfl rfl rfl rfl rfl rfl ⟨rfl, rfl, rfl, rfl, rfl⟩ rfl rfl rfl rfl rfl (by kernel_rfl) Try.func6 (by kernel_rfl)
    (of_decide_eq_true (by kernel_rfl)) (by unfold Func.isWrapper; first | (rw [if_pos (by decide +kernel)]; kernel_rfl) | (rw [if_neg (by decide +kernel)]; exact ⟨rfl, rfl⟩))
    (fun os started H enc _ F => by rw [OpenClaim.pre_eq_preRow]; exact lifted os started H enc F)


end Go.Proofs.Ytmkmdbpibpbcjaa.xbk
