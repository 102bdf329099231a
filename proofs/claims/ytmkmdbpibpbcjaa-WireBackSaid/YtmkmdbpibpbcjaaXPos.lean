/-
  The law's positive; Lay of numbers, by the law's layNumber.
-/
import Derived.Test.YtmkmdbpibpbcjaaXLy
import Derived.Test.YtmkmdbpibpbcjaaXMk
import Derived.Test.YtmkmdbpibpbcjaaXInt

namespace Go.Proofs.Ytmkmdbpibpbcjaa
open Go Go.RowKit
open Sha

theorem Wk.laid {w0 w w' : World} {Q : Nat} {A : Option Addr} {cap : Nat} {xs d : List (BitVec 8)} (h : Wk w0 w Q A cap (xs, 0)) (k : Beh w w' Q A cap xs 0 d) (hl : xs.length + d.length ≤ 4194304) :
    ∃ A' cap', Wk w0 w' Q A' cap' (xs ++ d, 0) ∧ Frm (.slice A xs.length cap) w.heap.size (.slice A' (xs ++ d).length cap') := by
  obtain ⟨⟨A', cap', hw, hf⟩, hG⟩ := k
  have e1 : wrB xs 0 d = xs ++ d := by unfold wrB; rw [if_pos rfl, if_pos hl]
  have e2 : wrF xs 0 d = 0 := by unfold wrF; rw [if_pos rfl, if_pos hl]
  rw [e1] at hw hf
  rw [e2] at hw
  refine ⟨A', cap', ⟨hw, fun g e => ?_, h.hP, ?_, h.below.trans (hG.to_below h.below.size (fun k q => ?_))⟩, hf⟩
  · rcases hf g e with q | q
    · exact h.fw g q
    · exact Nat.le_trans h.below.size q
  · show (xs ++ d).length ≤ _
    rw [List.length_append]; exact hl
  · rcases q with q | q
    · rw [q]; exact h.hP
    · exact h.fw k q
/-- A writer beside a list that it lays. -/
structure Wl (w0 : World) (M : Nat) (w : World) (Q : Nat) (A : Option Addr) (cap : Nat) (xs : List (BitVec 8)) (v : Value) (vs : List Value) (ps : List (List (BitVec 8))) : Prop where
  wk : Wk w0 w Q A cap (xs, 0)
  ly : Ly M w v vs ps
  sep : ∀ g, Lblk v vs g → ¬ Rw Q A cap xs g
theorem Wl.laid {w0 : World} {M : Nat} {w w' : World} {Q : Nat} {A : Option Addr} {cap : Nat} {xs : List (BitVec 8)} {v : Value} {vs : List Value} {ps : List (List (BitVec 8))} (h : Wl w0 M w Q A cap xs v vs ps) {d : List (BitVec 8)} (k : Beh w w' Q A cap xs 0 d) (hl : xs.length + d.length ≤ 4194304) :
    ∃ A' cap', Wl w0 M w' Q A' cap' (xs ++ d) v vs ps := by
  obtain ⟨A', cap', c, hf⟩ := h.wk.laid k hl
  refine ⟨A', cap', ⟨c, h.ly.sep k.2 h.sep, fun g q r => ?_⟩⟩
  rcases r with r | r
  · exact h.sep g q (.inl r)
  · rcases hf g r with r3 | r3
    · exact h.sep g q (.inr r3)
    · have := (h.ly.lt g q).1; omega

set_option maxRecDepth 100000 in
set_option maxHeartbeats 4000000 in
theorem lay_bytes_w (w0 : World) (M : Nat) (Q : Nat) (A : Option Addr) (cap : Nat) (xs : List (BitVec 8)) (Av : Option Addr) (cv : Nat) (vs : List Value) (ps : List (List (BitVec 8))) (n : Nat) (hn : ps.length = n) (hn4 : n ≤ 4194304) (w : World) (h : Wl w0 M w Q A cap xs (.slice Av n cv) vs ps)
    (hT : xs.length + ((fm [n, 0, 0, 0] (nb n 0 0 0)).length + (pfs ps n).length) ≤ 4194304) (hp : ∀ i, i < n → (ps.getD i []).length ≤ 4194304) :
    Calls Try.prog 76 #[.pointer (some ⟨Q, 0, none⟩), .slice Av n cv, .func (.func 78) #[] #[]] w fun e w' => e = .returned (.tuple #[]) ∧ (∃ A' cap', Wk w0 w' Q A' cap' (xs ++ (fm [n, 0, 0, 0] (nb n 0 0 0) ++ pfs ps n), 0)) := by
  have hfn := fun w => wfunc_nil (.func 78) #[] #[] w
  have HX : Hid (xs.length ≤ 4194304) := by show _ ≤ _; omega
  have HC : Hid _ := number_in Q A cap xs 0 n (by omega) _ rfl HX.out w (Rw Q A cap xs) rfl h.wk.wr
  obtain ⟨F, hF⟩ : ∃ F, F = fm [n, 0, 0, 0] (nb n 0 0 0) := ⟨_, rfl⟩
  rw [← hF] at HC hT ⊢
  have H : Hid (Wl _ _ _ _ _ _ _ _ _ _) := h
  have HT : Hid (xs.length + (F.length + (pfs ps n).length) ≤ 4194304) := hT
  have HP : Hid (∀ i, i < n → (ps.getD i []).length ≤ 4194304) := hp
  have HN : Hid (ps.length = n) := hn
  clear h hT hp hn hF
  go_enter Try.func76, Try.ntmps76
  go_wp2_with fail
  refine Calls.mono HC.out ?_
  rintro e W1 ⟨rfl, hbeh⟩
  obtain ⟨A1, cap1, cl1⟩ := H.out.laid (show Beh w W1 Q A cap xs 0 F from hbeh) (by have := HT.out; omega)
  have CL1 : Hid (Wl w0 M W1 Q A1 cap1 (xs ++ F) (.slice Av n cv) vs ps) := cl1
  clear hbeh cl1 HC H
  go_wp2
  go_loopw [7, 20] (fun _ i wr => ∃ (t : Nat) (A' : Option Addr) (cap' : Nat), t ≤ n ∧ i = .int .i64 (t : Int) ∧ Wl w0 M wr Q A' cap' (xs ++ (F ++ pfs ps t)) (.slice Av n cv) vs ps) (fun _ i _ => n - (intOf i).toNat)
  case atStart => exact ⟨0, A1, cap1, Nat.zero_le _, rfl, by rw [show pfs ps 0 = [] from rfl, List.append_nil]; exact CL1.out⟩
  case round =>
    clear CL1
    obtain ⟨t, A', cap', ht, rfl, hcl⟩ := hrel
    have CL : Hid (Wl _ _ _ _ _ _ _ _ _ _) := hcl
    by_cases hlt : t < n
    · have hvl : vs.length = n := by rw [hcl.ly.len]; exact HN.out
      obtain ⟨g, eg, ⟨cc, ev, hcc⟩, gc⟩ := Sw.at hcl.ly.own t (by omega)
      obtain ⟨B, cb, eb, hbw, hfr, hnil⟩ := hcl.ly.each t (by rw [HN.out]; exact hlt)
      rw [eb] at gc
      simp only [Value.slice.injEq] at ev
      obtain ⟨rfl, ev1, ev2⟩ := ev
      clear ev1 ev2
      have hlen := pfs_le ps (t + 1)
      rw [HN.out] at hlen
      have hsucc := pfs_succ ps t (by rw [HN.out]; exact hlt)
      have hpl : (pfs ps (t + 1)).length = (pfs ps t).length + (pf (ps.getD t [])).length := by rw [hsucc, List.length_append]
      have hsl : ∀ W, Gro (Rw Q A' cap' (xs ++ (F ++ pfs ps t))) wr W → SlAt W (.slice B (ps.getD t []).length cb) (ps.getD t []) := fun W hG => Bw.sl (Bw.gro hbw hG (fun g' e' q => hcl.sep g' (.inr ⟨t, by omega, by rw [eb]; exact e'⟩) q))
      have HLB : Hid _ := layBytes_any Q A' cap' (xs ++ (F ++ pfs ps t)) (by rw [List.length_append, List.length_append]; have := HT.out; omega) (ps.getD t []) _ rfl (HP.out t hlt) B cb hnil wr hcl.wk.wr hsl
      have HO : Hid _ := open_ok Q _ wr hcl.wk.wr.1
      have HSU : Hid (xs ++ (F ++ pfs ps (t + 1)) = (xs ++ (F ++ pfs ps t)) ++ pf (ps.getD t [])) := by show _ = _; rw [hsucc]; simp [List.append_assoc]
      have HLL : Hid ((xs ++ (F ++ pfs ps t)).length + (pf (ps.getD t [])).length ≤ 4194304) := by show _ ≤ _; rw [List.length_append, List.length_append]; have := HT.out; omega
      clear hcl hbw hfr hnil hlen hsucc hpl hsl hvl eb eg hcc
      generalize (ps.getD t []).length = m at *
      go_wp2_with (first
        | (go_at_call 122; refine Calls.mono HO.out ?_; rintro e w2 ⟨rfl, hq⟩; obtain rfl := hq.symm)
        | fail)
      refine Calls.mono HLB.out ?_
      rintro e W3 ⟨rfl, hb3⟩
      obtain ⟨A3, cap3, cl3⟩ := CL.out.laid hb3 HLL.out
      rw [← HSU.out] at cl3
      have CL3 : Hid (Wl _ _ _ _ _ _ _ _ _ _) := cl3
      clear hb3 cl3 HLB HO
      go_wp2_with fail
      exact ⟨⟨t + 1, A3, cap3, hlt, by go_num, CL3.out⟩, by simp [intOf]; omega⟩
    · obtain rfl : t = n := by omega
      clear hcl
      go_wp2
      first | go_end0 | refine bodyPost_ret (results_none rfl _ _ _) rfl ?_
      exact ⟨rfl, A', cap', CL.out.wk⟩

end Go.Proofs.Ytmkmdbpibpbcjaa

namespace Go.Proofs.Ytmkmdbpibpbcjaa
open Go Go.RowKit
open Sha

/-- The numbers from 0 on. -/
def ng (ns : List Int) : List Nat := ns.map fun n => (pk n mx).toNat
theorem ng_len (ns : List Int) : (ng ns).length = ns.length := by simp [ng]
theorem ng_lt (ns : List Int) (i : Nat) : (ng ns).getD i 0 < 9223372036854775807 := by
  unfold ng
  rw [List.getD_eq_getElem?_getD, List.getElem?_map]
  cases h : ns[i]? with
  | none => decide
  | some x =>
    have := pk_range x mx (by decide)
    simp only [Option.map_some, Option.getD_some]
    have e : mx = 9223372036854775807 := rfl
    rw [e] at this ⊢
    omega
def nI (l : List Nat) : List Int := l.map (fun (n : Nat) => (n : Int))
theorem nI_len (l : List Nat) : (nI l).length = l.length := by simp [nI]
theorem iapp_form {w' : World} {v' : Value} {d : List Int} {x : Int} {t : Nat} (q1 : Iw w' v' (d ++ [x])) (hd : d.length = t) : ∃ Ax cx, v' = .slice Ax (t + 1) cx := by
  obtain ⟨Ax, cx, ex, _⟩ := Iw.form q1
  exact ⟨Ax, cx, by rw [ex]; simp [hd]⟩

set_option maxRecDepth 100000 in
set_option maxHeartbeats 4000000 in
theorem positive_any (L : Option Addr) (n cl : Nat) (ns : List Int) (hn : ns.length = n) (hl : n ≤ 4194304) (hb : ∀ i, i < n → -9223372036854775808 ≤ ns.getD i 0 ∧ ns.getD i 0 < 9223372036854775808) (w : World) (hi : InAt w L ns) :
    Calls Try.prog 80 #[.slice L n cl] w fun e w' => (∃ Av cv, e = .returned (.slice Av n cv) ∧ Iw w' (.slice Av n cv) (nI (ng ns)) ∧ Fresh w.heap.size (.slice Av n cv)) ∧ Below w.heap.size w w' := by
  have HI : Hid (InAt w L ns) := hi
  have HN : Hid (ns.length = n) := hn
  have HB : Hid (∀ i, i < n → -9223372036854775808 ≤ ns.getD i 0 ∧ ns.getD i 0 < 9223372036854775808) := hb
  clear hi hn hb
  go_enter Try.func80, Try.ntmps80
  go_wp2_with fail
  go_loopw [3, 4] (fun l i wr => ∃ (t : Nat) (Av : Option Addr) (cv : Nat), t ≤ n ∧ i = .int .i64 (t : Int) ∧ l = .slice Av t cv ∧ Iw wr (.slice Av t cv) (nI (ng (ns.take t))) ∧ Fresh w.heap.size (.slice Av t cv) ∧ Below w.heap.size w wr) (fun _ i _ => n - (intOf i).toNat)
  case atStart => exact ⟨0, none, 0, Nat.zero_le _, rfl, rfl, Iw.nil _, (fun g e => by simp [Value.ownBlock] at e), Below.refl _ _⟩
  case round =>
    obtain ⟨t, Av, cv, ht, rfl, rfl, hown, hfr, hbb⟩ := hrel
    have HO : Hid (Iw wr (.slice Av t cv) (nI (ng (ns.take t)))) := hown
    have HF : Hid (Fresh w.heap.size (.slice Av t cv)) := hfr
    have BB : Hid (Below w.heap.size w wr) := hbb
    clear hown hfr hbb
    by_cases hlt : t < n
    · obtain ⟨b, o, rfl, hc⟩ := InAt.at (InAt.be HI.out BB.out) t (by rw [HN.out]; exact hlt)
      obtain ⟨x1, x2⟩ := HB.out t hlt
      have HP : Hid (∀ w, _) := fun w => pick_any (ns.getD t 0) mx (by decide) x1 (by omega) (by decide) w
      have ET : Hid (nI (ng (ns.take (t + 1))) = nI (ng (ns.take t)) ++ [((pk (ns.getD t 0) mx).toNat : Int)]) := by
        show _ = _
        have hlt2 : t < ns.length := by rw [HN.out]; exact hlt
        rw [List.take_succ_eq_append_getElem hlt2]
        unfold ng nI
        rw [List.map_append, List.map_append]
        congr 1
        rw [List.getD_eq_getElem?_getD, List.getElem?_eq_getElem hlt2]
        rfl
      have hpr := pk_range (ns.getD t 0) mx (by decide)
      have EP : Hid (((pk (ns.getD t 0) mx).toNat : Int) = pk (ns.getD t 0) mx) := by show _ = _; omega
      rw [EP.out] at ET
      have DL : Hid ((nI (ng (ns.take t))).length = t) := by show _ = _; rw [nI_len, ng_len, List.length_take, HN.out]; omega
      have HL : Hid (((nI (ng (ns.take t))).length + 1) * 8 ≤ 140737488355328) := by show _ ≤ _; rw [DL.out]; omega
      clear x1 x2 hpr EP
      generalize pk (ns.getD t 0) mx = x at *
      generalize nI (ng (ns.take t)) = d at *
      have b1 : Below wr.heap.size wr (wr.alloc (Obj.cells #[.int .i64 x] 3)) := (Below.refl _ _).alloc (Nat.le_refl _) _
      have R1 : Hid (Row (wr.alloc (Obj.cells #[.int .i64 x] 3)) wr.heap.size [.int .i64 x] 3) := Row.new' rfl rfl
      have HO2 : Hid (Iw (wr.alloc (Obj.cells #[.int .i64 x] 3)) (.slice Av t cv) d) := Iw.be HO.out b1
      have B1 : Hid _ := b1
      clear b1
      go_wp2_with (first
        | (go_at_call 30; refine Calls.mono (HP.out _) ?_; rintro e w2 ⟨rfl, hq⟩; obtain rfl := hq.symm)
        | (refine wpList_appi rfl (.tmp 11) (.tmp 17) rfl (.slice Av t cv) d rfl HO2.out wr.heap.size x rfl R1.out HL.out ?_; intro v' w' q1 q2 q3; obtain ⟨Ax, cx, ex⟩ := iapp_form q1 DL.out; subst ex; have Q1 : Hid _ := q1; have Q2 : Hid _ := q2; have Q3 : Hid _ := q3; clear q1 q2 q3; simp only [Act.put, List.setIfInBounds_toArray, List.set_cons_zero, List.set_cons_succ]))
      refine ⟨⟨t + 1, Ax, cx, hlt, by go_num, rfl, by rw [ET.out]; exact Q1.out, fun g e => ?_, ((BB.out.trans (B1.out.mono BB.out.size))).grown Q2.out (Nat.le_trans BB.out.size B1.out.size) (fun k hk => HF.out k hk)⟩, by simp [intOf]; omega⟩
      rcases Q3.out with q | q
      · exact HF.out g (q.symm.trans e)
      · have e2 := q.symm.trans e
        simp only [Option.some.injEq] at e2
        have := BB.out.size
        have e3 : (wr.alloc (Obj.cells #[.int .i64 x] 3)).heap.size = g := e2
        have := B1.out.size
        omega
    · obtain rfl : t = n := by omega
      have HO2 : Hid (Iw wr (.slice Av t cv) (nI (ng ns))) := by
        have := HO.out
        rw [List.take_of_length_le (by rw [HN.out]; exact Nat.le_refl _)] at this
        exact this
      go_wp2
      go_ret
      exact ⟨⟨Av, cv, rfl, HO2.out, HF.out⟩, BB.out⟩

end Go.Proofs.Ytmkmdbpibpbcjaa
