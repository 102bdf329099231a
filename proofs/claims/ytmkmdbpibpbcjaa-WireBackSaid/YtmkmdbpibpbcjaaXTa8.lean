/-
  The law's takes, at some kinds.
-/
import Derived.Test.YtmkmdbpibpbcjaaXAx
import Derived.Test.YtmkmdbpibpbcjaaXPos
import Derived.Test.YtmkmdbpibpbcjaaXFaces
import Derived.Test.YtmkmdbpibpbcjaaXStp
import Derived.Test.YtmkmdbpibpbcjaaXFmB
import Derived.Test.YtmkmdbpibpbcjaaXLaysK
import Derived.Test.YtmkmdbpibpbcjaaXTa5
import Derived.Test.YtmkmdbpibpbcjaaXBackM
import Derived.Test.YtmkmdbpibpbcjaaXAgain
import Derived.Test.YtmkmdbpibpbcjaaXLaysL
import Derived.Test.YtmkmdbpibpbcjaaXEql
import Derived.Test.YtmkmdbpibpbcjaaXPcs

namespace Go.Proofs.Ytmkmdbpibpbcjaa
open Go Go.RowKit
open Sha

set_option maxRecDepth 100000 in
theorem takeNumber_ok (P : Nat) (A : Option Addr) (cap : Nat) (bs : List (BitVec 8)) (a : Nat) (hE : nuE bs a = 0) (w : World) (h : Rg w P A cap bs a) :
    Calls Try.prog 87 #[.pointer (some ⟨P, 0, none⟩)] w fun e w' => e = .returned (.int .i64 ((nuW bs a : Nat) : Int)) ∧ Rg w' P A cap bs (a + 1 + at8 bs a) ∧ Gp P w w' := by
  have HF : Hid _ := face_number P A cap bs a w h
  have HE : Hid (nuE bs a = 0) := hE
  clear h hE
  generalize nuW bs a = v at *
  generalize a + 1 + at8 bs a = a' at *
  go_enter Try.func87, Try.ntmps87
  go_wp2_with fail
  refine Calls.mono HF.out ?_
  rintro e V ⟨h1, _, hg⟩
  obtain ⟨rfl, hr⟩ := h1 HE.out
  have HG : Hid (Gro _ _ _) := hg
  have HR : Hid (Rg _ _ _ _ _ _) := hr
  clear h1 hg hr HF
  go_wp2_with fail
  go_ret
  exact ⟨rfl, HR.out, HG.out⟩

set_option maxRecDepth 100000 in
set_option maxHeartbeats 4000000 in
theorem list_nums (P : Nat) (A : Option Addr) (cap : Nat) (bs : List (BitVec 8)) (a : Nat) (most : Int) (w : World) (h : Rg w P A cap bs a) (hE : cnE bs a most = 0) (ns : List Nat) (n : Nat) (hn : nuW bs a = n) (hns : ns.length = n) (pl : Nat → Nat) (hp0 : pl 0 = a + 1 + at8 bs a) (hst : ∀ t, t < n → nuE bs (pl t) = 0 ∧ nuW bs (pl t) = ns.getD t 0 ∧ pl (t + 1) = pl t + 1 + at8 bs (pl t)) :
    Calls Try.prog 86 #[.pointer (some ⟨P, 0, none⟩), .int .i64 most, .func (.func 87) #[] #[]] w fun e w' => (∃ Av cv, e = .returned (.slice Av n cv) ∧ Iw w' (.slice Av n cv) (nI ns) ∧ Fresh w.heap.size (.slice Av n cv)) ∧ Rg w' P A cap bs (pl n) ∧ Gp P w w' := by
  have hmf : ∀ (fn : Fn) (first cap : Array Value) (w : World), (Instr.makeFunc fn first cap).run Try.prog w = .ok (.func fn first cap) w := fun _ _ _ _ => rfl
  have hfn := fun w => rfunc_nil (.func 87) #[] #[] w
  have b0 : Below w.heap.size w (w.alloc (Obj.cells #[.int .i64 most] 3)) := (Below.refl _ _).alloc (Nat.le_refl _) _
  have rm : Row (w.alloc (Obj.cells #[.int .i64 most] 3)) w.heap.size [.int .i64 most] 3 := Row.new' rfl rfl
  have HT : Hid _ := take_count P A cap bs a most w.heap.size (cnE bs a most) (.int .i64 ((nuW bs a : Nat) : Int)) (a + 1 + at8 bs a) _ (h.be b0) rm (fun h0 W hr hq => seeList_any P A cap bs a most w.heap.size h0 W hr hq) (fun h0 W hr hq => seeList_no P A cap bs a most w.heap.size h0 W hr hq)
  have HB0 : Hid _ := b0
  have HLP : Hid (P < w.heap.size) := h.row.lt
  have hn4 : n ≤ 4194304 := by have := cnE_ok hE; have := h.len; omega
  have HS : Hid (∀ t, t < n → nuE bs (pl t) = 0 ∧ nuW bs (pl t) = ns.getD t 0 ∧ pl (t + 1) = pl t + 1 + at8 bs (pl t)) := hst
  have HNS : Hid (ns.length = n) := hns
  have HE : Hid (cnE bs a most = 0) := hE
  rw [hn, ← hp0] at HT
  clear h b0 rm hE hn hns hp0 hst
  go_enter Try.func86, Try.ntmps86
  go_wp2_with fail
  refine Calls.mono HT.out ?_
  rintro e V ⟨hok, _, hg⟩
  obtain ⟨rfl, hr⟩ := hok HE.out
  have HGV : Hid (Gp P w V) := (Gro.of_below HB0.out).trans hg
  have HRG : Hid (Rg V P A cap bs (pl 0)) := hr
  clear hok hg hr HT HB0 hfn
  go_wp2
  go_loopw [8] (fun l wr => ∃ (t : Nat) (Av : Option Addr) (cv : Nat), t ≤ n ∧ l = .slice Av t cv ∧ Rg wr P A cap bs (pl t) ∧ Iw wr (.slice Av t cv) (nI (ns.take t)) ∧ Fresh w.heap.size (.slice Av t cv) ∧ Gp P w wr) (fun l _ => n - (match l with | .slice _ k _ => k | _ => 0))
  case atStart => exact ⟨0, none, 0, Nat.zero_le _, rfl, HRG.out, Iw.nil _, (fun g e => by simp [Value.ownBlock] at e), HGV.out⟩
  case round =>
    clear HRG HGV
    obtain ⟨t, Av, cv, ht, rfl, hrg, hown, hfv, hgg⟩ := hrel
    have HRG : Hid (Rg _ _ _ _ _ _) := hrg
    have HOW : Hid (Iw wr (.slice Av t cv) (nI (ns.take t))) := hown
    have HFV : Hid (Fresh w.heap.size (.slice Av t cv)) := hfv
    have HGG : Hid (Gp P w wr) := hgg
    have g2 := hrg.row.cell 2 _ rfl
    by_cases hlt : t < n
    · obtain ⟨s1, s2, s3⟩ := HS.out t hlt
      have HTK : Hid _ := takeNumber_ok P A cap bs (pl t) s1 wr hrg
      rw [s2, ← s3] at HTK
      have HL : Hid (((nI (ns.take t)).length + 1) * 8 ≤ 140737488355328) := by show _ ≤ _; rw [nI_len, List.length_take]; omega
      have HD : Hid ((nI (ns.take t)).length = t) := by show _ = _; rw [nI_len, List.length_take, HNS.out]; omega
      have ET : Hid (nI (ns.take (t + 1)) = nI (ns.take t) ++ [((ns.getD t 0 : Nat) : Int)]) := by
        show _ = _
        have hlt2 : t < ns.length := by rw [HNS.out]; exact hlt
        rw [List.take_succ_eq_append_getElem hlt2]
        unfold nI
        rw [List.map_append]
        congr 1
        rw [List.getD_eq_getElem?_getD, List.getElem?_eq_getElem hlt2]
        rfl
      generalize ns.getD t 0 = x at *
      clear hrg hown hfv hgg s1 s2 s3
      go_wp2_with fail
      refine Calls.mono HTK.out ?_
      rintro e W1 ⟨rfl, hr1, hg1⟩
      have HO1 : Hid (Iw W1 (.slice Av t cv) (nI (ns.take t))) := Iw.gro HOW.out hg1 (fun g e q => by have := HFV.out g e; have := HLP.out; omega)
      have HR1 : Hid (Rg W1 P A cap bs (pl (t + 1))) := hr1
      have HG1 : Hid (Gp P w W1) := HGG.out.trans hg1
      have b1 : Below W1.heap.size W1 (W1.alloc (Obj.cells #[.int .i64 (x : Int)] 3)) := (Below.refl _ _).alloc (Nat.le_refl _) _
      have R1 : Hid (Row (W1.alloc (Obj.cells #[.int .i64 (x : Int)] 3)) W1.heap.size [.int .i64 (x : Int)] 3) := Row.new' rfl rfl
      have HO : Hid (Iw (W1.alloc (Obj.cells #[.int .i64 (x : Int)] 3)) (.slice Av t cv) (nI (ns.take t))) := Iw.be HO1.out b1
      have B1 : Hid _ := b1
      clear b1 hr1 hg1 HTK g2 HO1 HOW
      go_wp2_with (refine wpList_appi rfl (.tmp 29) (.tmp 33) rfl (.slice Av t cv) (nI (ns.take t)) rfl HO.out W1.heap.size (x : Int) rfl R1.out HL.out ?_; intro v' w' q1 q2 q3; obtain ⟨Ax, cx, ex⟩ := iapp_form q1 HD.out; subst ex; have Q1 : Hid _ := q1; have Q2 : Hid _ := q2; have Q3 : Hid _ := q3; clear q1 q2 q3; simp only [Act.put, List.setIfInBounds_toArray, List.set_cons_zero, List.set_cons_succ])
      have G3 : Gro (fun g => (Value.slice Av t cv).ownBlock = some g) (W1.alloc (Obj.cells #[.int .i64 (x : Int)] 3)) w' := (Gro.refl _ _).grown Q2.out (fun g e => .inl e)
      have hr2 := HR1.out.be B1.out
      refine ⟨⟨t + 1, Ax, cx, hlt, rfl, ⟨G3.row hr2.row (fun e => by have := HFV.out _ e; have := HLP.out; omega), Bw.gro hr2.bw G3 (fun g e q => by
          obtain ⟨cs, r⟩ := Iw.row HO.out g q
          exact Bw.ne hr2.bw r (by decide) g e rfl), hr2.le, hr2.len⟩, by rw [ET.out]; exact Q1.out, fun g e => ?_, (HG1.out.below B1.out).grown Q2.out (fun g e => .inr (HFV.out g e))⟩, by simp only; omega⟩
      rcases Q3.out with q | q
      · exact HFV.out g (q.symm.trans e)
      · have e2 := q.symm.trans e
        simp only [Option.some.injEq] at e2
        rw [← e2]
        exact Nat.le_trans HG1.out.size B1.out.size
    · obtain rfl : t = n := by omega
      have ET : Hid (nI (ns.take t) = nI ns) := by show _ = _; rw [List.take_of_length_le (by rw [HNS.out]; exact Nat.le_refl _)]
      clear hrg hown hfv hgg
      go_wp2
      go_ret
      exact ⟨⟨Av, cv, rfl, by rw [← ET.out]; exact HOW.out, HFV.out⟩, HRG.out, HGG.out⟩

end Go.Proofs.Ytmkmdbpibpbcjaa

namespace Go.Proofs.Ytmkmdbpibpbcjaa
open Go Go.RowKit
open Sha

set_option maxRecDepth 100000 in
set_option maxHeartbeats 2000000 in
theorem sameInts_true (l : List Int) (n : Nat) (hn : l.length = n) (hs : n ≤ 4194304) (A B : Option Addr) (ca cb : Nat) (w : World) (h1 : InAt w A l) (h2 : InAt w B l) :
    Calls Try.prog 85 #[.slice A n ca, .slice B n cb] w fun e w' => e = .returned (.bool true) ∧ ∃ m, w' = w.drewN m := by
  have HN : Hid (l.length = n) := hn
  have H1 : Hid (InAt w A l) := h1
  have H2 : Hid (InAt w B l) := h2
  clear hn h1 h2
  go_enter Try.func85, Try.ntmps85
  go_wp2
  go_loopw [5] (fun i wr => ∃ t : Nat, t ≤ n ∧ i = .int .i64 (t : Int) ∧ ∃ m, wr = w.drewN m) (fun i _ => n - (intOf i).toNat)
  case atStart => exact ⟨0, Nat.zero_le _, rfl, 0, rfl⟩
  case round =>
    obtain ⟨t, ht, rfl, m, hm⟩ := hrel
    by_cases hlt : t < n
    · obtain ⟨b1, o1, rfl, c1⟩ := InAt.at H1.out t (by rw [HN.out]; exact hlt)
      obtain ⟨b2, o2, rfl, c2⟩ := InAt.at H2.out t (by rw [HN.out]; exact hlt)
      have c1' : wr.cell? ⟨b1, o1 + t, none⟩ = some (.int .i64 (l.getD t 0)) := by rw [hm]; exact c1
      have c2' : wr.cell? ⟨b2, o2 + t, none⟩ = some (.int .i64 (l.getD t 0)) := by rw [hm]; exact c2
      generalize l.getD t 0 = x at *
      have HM : Hid _ := hm
      clear c1 c2 hm
      go_wp2
      go_region
      all_goals
        go_wp2
        exact ⟨⟨t + 1, hlt, by go_num, m + 1, by rw [HM.out]; rfl⟩, by simp [intOf]; omega⟩
    · obtain rfl : t = n := by omega
      have HM : Hid _ := hm
      clear hm
      go_wp2
      go_ret
      exact ⟨rfl, m, HM.out⟩

end Go.Proofs.Ytmkmdbpibpbcjaa

namespace Go.Proofs.Ytmkmdbpibpbcjaa
open Go Go.RowKit
open Sha

theorem list_fo8 (P : Nat) (Ar : Option Addr) (capr : Nat) (bs : List (BitVec 8)) (a : Nat) (l : List Int) (n : Nat) (hn : l.length = n) (hn4 : n ≤ 4194304) (hl : a + (fo8 l n).length ≤ bs.length) (hf : sub bs a (fo8 l n).length = fo8 l n) (w : World) (h : Rg w P Ar capr bs a) :
    Calls Try.prog 86 #[.pointer (some ⟨P, 0, none⟩), .int .i64 (n : Int), .func (.func 87) #[] #[]] w fun e w' => (∃ Av cv, e = .returned (.slice Av n cv) ∧ Iw w' (.slice Av n cv) (nI (ng l)) ∧ Fresh w.heap.size (.slice Av n cv)) ∧ Rg w' P Ar capr bs (a + (fo8 l n).length) ∧ Gp P w w' := by
  have hnl : (ng l).length = n := by rw [ng_len]; exact hn
  obtain ⟨e1, e2, e3, e4⟩ := read_cn n (n : Int) (Int.le_refl _) (by omega) (fms (ng l) n) (fms_ge _ _ (by rw [hnl]; exact Nat.le_refl _)) bs a hl hf
  have e5 : a + 1 + at8 bs a + (fms (ng l) n).length = a + (fo8 l n).length := e4
  have hrd := fms_read (ng l) (ng_lt l) bs (a + 1 + at8 bs a) (by rw [hnl, e5]; exact hl) (by rw [hnl]; exact e3)
  have := list_nums P Ar capr bs a (n : Int) w h e1 (ng l) n e2 hnl (fun t => a + 1 + at8 bs a + (fms (ng l) t).length) (by simp [fms]) (fun t ht => hrd t (by rw [hnl]; exact ht))
  simp only [e5] at this
  exact this

set_option maxRecDepth 100000 in
set_option maxHeartbeats 4000000 in
theorem takes_8 (P : Nat) (Ar : Option Addr) (capr : Nat) (bs : List (BitVec 8)) (a : Nat) (K N : Int) (hK1 : -9223372036854775808 ≤ K) (hK2 : K ≤ 9223372036854775807) (hk : pk K 9 = 8) (hN1 : -9223372036854775808 ≤ N) (hN2 : N ≤ 9223372036854775807) (u : Value) (m0 m1 m2 m3 : Nat) (L : Option Addr) (cl : Nat) (l : List Int) (n : Nat) (hd : l.length = n) (hn : n ≤ 4194304) (hbd : ∀ i, i < n → -9223372036854775808 ≤ l.getD i 0 ∧ l.getD i 0 < 9223372036854775808) (w0 : World) (hP0 : w0.heap.size ≤ P) (hv : ∀ W, Below w0.heap.size w0 W → InAt W L l) (hl : a + (fo8 l n).length ≤ bs.length) (hf : sub bs a (fo8 l n).length = fo8 l n) (w : World) (hb0 : Below w0.heap.size w0 w) (h : Rg w P Ar capr bs a) :
    Calls Try.prog 24 #[.pointer (some ⟨P, 0, none⟩), .agg (sc K N u m0 m1 m2 m3 (.slice L n cl)).toArray] w fun e w' => e = .returned (.bool true) ∧ Rg w' P Ar capr bs (a + (fo8 l n).length) ∧ Gp P w w' := by
  have hall := And.intro hN1 hN2
  clear hall
  have HP : Hid (∀ w, _) := fun w => pick_any K 9 (by decide) hK1 hK2 (by decide) w
  rw [hk] at HP
  have b1 : Below w.heap.size w (w.alloc (Obj.cells (sc K N u m0 m1 m2 m3 (.slice L n cl)).toArray 33)) := (Below.refl _ _).alloc (Nat.le_refl _) _
  have r1 : Row (w.alloc (Obj.cells (sc K N u m0 m1 m2 m3 (.slice L n cl)).toArray 33)) w.heap.size (sc K N u m0 m1 m2 m3 (.slice L n cl)) 33 := Row.new' rfl rfl
  have hr := h.be b1
  have HD : Hid (∀ W, Gp P w W → InAt W L l) := fun W hg => hv W (hb0.trans (Gro.to_below hg hb0.size (fun k q => by rw [q]; exact hP0)))
  have G1 : Hid (Gp P w (w.alloc (Obj.cells (sc K N u m0 m1 m2 m3 (.slice L n cl)).toArray 33))) := Gro.of_below b1
  have HNE : Hid (w.heap.size ≠ P) := by show _ ≠ _; have := h.row.lt; omega
  have g0 := r1.cell 0 _ rfl
  
  clear h b1 hK1 hK2 hk
  go_enter Try.func24, Try.ntmps24
  go_wp2_with fail
  refine Calls.mono (HP.out (w.alloc (Obj.cells (sc K N u m0 m1 m2 m3 (.slice L n cl)).toArray 33))) ?_
  rintro e w2 ⟨rfl, rfl⟩
  generalize (w.alloc (Obj.cells (sc K N u m0 m1 m2 m3 (.slice L n cl)).toArray 33)) = Y at *
  have HF : Hid _ := (fun W hW => list_fo8 P Ar capr bs a l n hd hn hl hf W hW) (World.drew Y) ⟨hr.row, hr.bw, hr.le, hr.len⟩
  have R1 : Hid (Row (World.drew Y) w.heap.size (sc K N u m0 m1 m2 m3 (.slice L n cl)) 33) := r1
  have GD : Hid (Gp P w (World.drew Y)) := Gro.drewN G1.out 1
  have c7 := R1.out.cell 7 _ rfl
  have HPO : Hid (∀ W, Gp P w W → _) := fun W hg => positive_any L n cl l hd hn hbd W (HD.out W hg)
  have HLN : Hid ((nI (ng l)).length = n) := by show _ = _; rw [nI_len, ng_len]; exact hd
  have HN4 : Hid (n ≤ 4194304) := hn
  clear hr r1 g0 HP hN1 hN2 hd hn hv hb0 hP0 hl hf HD hbd
  generalize nI (ng l) = ps at *
  go_wp2_with fail
  go_region_law (first
    | (refine stp_fcall rfl 86 #[.pointer (some ⟨P, 0, none⟩), .int .i64 (n : Int), .func (.func 87) #[] #[]] (by go_simp) (Calls.mono HF.out ?_); rintro e V ⟨⟨Av, cv, rfl, hiw, hfr⟩, hrv, hg⟩; refine ⟨_, rfl, ?_⟩; have HRV : Hid (Rg _ _ _ _ _ _) := hrv; have HGV : Hid (Gp P w V) := GD.out.trans hg; have rV := hg.row R1.out HNE.out; have c7V := rV.cell 7 _ rfl; have HC : Hid _ := HPO.out V HGV.out; have HIW : Hid (Iw V (.slice Av n cv) ps) := hiw; clear hiw hfr hrv hg rV HF HPO)
    | (refine stp_fcall rfl 80 #[.slice L n cl] (by go_simp) (Calls.mono HC.out ?_); rintro e V2 ⟨⟨A2, c2, rfl, hi2, _⟩, hbv⟩; refine ⟨_, rfl, ?_⟩; have HB2 : Hid (Below V.heap.size V V2) := hbv; have HS : Hid _ := sameInts_true ps n HLN.out HN4.out Av A2 cv c2 V2 (Iw.in' (Iw.be HIW.out hbv)) (Iw.in' hi2); clear hbv HC hi2)
    | (refine stp_fcall rfl 85 #[.slice Av n cv, .slice A2 n c2] (by go_simp) (Calls.mono HS.out ?_); rintro e V3 ⟨rfl, q, hq⟩; refine ⟨_, rfl, ?_⟩; have HQ : Hid (V3 = V2.drewN q) := hq; clear hq HS))
  all_goals
    go_wp2_with fail
    go_ret
    exact ⟨rfl, by rw [HQ.out]; exact (HRV.out.be HB2.out).drewN q, by rw [HQ.out]; exact Gro.drewN (HGV.out.below HB2.out) q⟩

end Go.Proofs.Ytmkmdbpibpbcjaa
