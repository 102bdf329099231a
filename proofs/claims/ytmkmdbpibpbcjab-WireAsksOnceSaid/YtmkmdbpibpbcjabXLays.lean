/-
  The law WireLaysOnce: what is told to Lay; Lay.
-/
import Derived.Test.YtmkmdbpibpbcjabXInt
import Derived.Test.YtmkmdbpibpbcjabXKnown
namespace Go.Proofs.Ytmkmdbpibpbcjab
open Go Go.RowKit
open Sha

/-- A writer, and the numbers seen, in memory made behind w0. -/
structure St (w0 w : World) (P S : Nat) (A : Option Addr) (cap : Nat) (s : List (BitVec 8) × Int) (Av : Option Addr) (cv : Nat) (ns : List Int) : Prop where
  wr : Wr w P A cap s.1 s.2
  row : Row w S [.slice Av ns.length cv] 26
  own : Iw w (.slice Av ns.length cv) ns
  fw : Fresh w0.heap.size (.slice A s.1.length cap)
  fv : Fresh w0.heap.size (.slice Av ns.length cv)
  hP : w0.heap.size ≤ P
  hS : w0.heap.size ≤ S
  len : s.1.length ≤ 4194304
  below : Below w0.heap.size w0 w
/-- Behind a number more. -/
theorem St.num {w0 w w' : World} {P S : Nat} {A A' : Option Addr} {cap cap' : Nat} {s : List (BitVec 8) × Int} {Av : Option Addr} {cv : Nat} {ns : List Int} {n : Int} (h : St w0 w P S A cap s Av cv ns)
    (hw : Wr w' P A' cap' (nuB s.1 s.2 n) (nuF s.1 s.2 n)) (hf : Frm (.slice A s.1.length cap) w.heap.size (.slice A' (nuB s.1 s.2 n).length cap')) (hG : Gro (fun g => g = P ∨ (Value.slice A s.1.length cap).ownBlock = some g) w w') :
    St w0 w' P S A' cap' (nuB s.1 s.2 n, nuF s.1 s.2 n) Av cv ns where
  wr := hw
  row := hG.row h.row (fun q => by
    rcases q with q | q
    · exact row_ne h.row h.wr.1 (by decide) q
    · exact Bw.ne h.wr.2 h.row (by decide) _ q rfl)
  own := Iw.gro h.own hG (fun g e q => by
    obtain ⟨cs, r⟩ := Iw.row h.own g e
    rcases q with q | q
    · exact row_ne r h.wr.1 (by decide) q
    · exact Bw.ne h.wr.2 r (by decide) _ q rfl)
  fw := fun g e => by
    rcases hf g e with q | q
    · exact h.fw g q
    · exact Nat.le_trans h.below.size q
  fv := h.fv
  hP := h.hP
  hS := h.hS
  len := nu_len _ _ _ h.len
  below := h.below.trans (hG.to_below h.below.size (fun k q => by
    rcases q with q | q
    · rw [q]; exact h.hP
    · exact h.fw k q))

/-- Behind a number more that was seen. -/
theorem St.see {w0 w W1 w' : World} {P S : Nat} {A : Option Addr} {cap : Nat} {s : List (BitVec 8) × Int} {Av Ax : Option Addr} {cv cx : Nat} {ns : List Int} {n : Int} (h : St w0 w P S A cap s Av cv ns) (b1 : Below w.heap.size w W1)
    (q1 : Iw w' (.slice Ax (ns ++ [n]).length cx) (ns ++ [n])) (q2 : W1.grownBy w' (Value.slice Av ns.length cv).ownBlock) (q3 : (Value.slice Ax (ns ++ [n]).length cx).ownBlock = (Value.slice Av ns.length cv).ownBlock ∨ (Value.slice Ax (ns ++ [n]).length cx).ownBlock = some W1.heap.size) :
    St w0 (w'.setCell ⟨S, 0, none⟩ (.slice Ax (ns ++ [n]).length cx)) P S A cap s Ax cx (ns ++ [n]) := by
  have G : Gro (fun g => (Value.slice Av ns.length cv).ownBlock = some g) W1 w' := (Gro.refl _ _).grown q2 (fun g e => .inl e)
  have own1 := Iw.be h.own b1
  have wr1 := h.wr.be b1
  have rS1 := Row.below h.row b1 h.row.lt
  have rS := G.row rS1 (fun e => Iw.ne own1 rS1 (by decide) _ e rfl)
  have rP := G.row wr1.1 (fun e => Iw.ne own1 wr1.1 (by decide) _ e rfl)
  have hB := Bw.gro wr1.2 G (fun g e q => by
    obtain ⟨cs, r⟩ := Iw.row own1 g q
    exact Bw.ne wr1.2 r (by decide) g e rfl)
  exact {
    wr := ⟨rP.set_other S 0 _ (row_ne rP rS (by decide)), Bw.set_other hB (Bw.ne hB rS (by decide))⟩
    row := rS.set 0 _
    own := Iw.set_other q1 (Iw.ne q1 rS (by decide))
    fw := h.fw
    fv := fun g e => by
      rcases q3 with q | q
      · exact h.fv g (q.symm.trans e)
      · have e2 : some W1.heap.size = some g := q.symm.trans e
        simp only [Option.some.injEq] at e2
        rw [← e2]
        exact Nat.le_trans h.below.size b1.size
    hP := h.hP
    hS := h.hS
    len := h.len
    below := ((h.below.trans (b1.mono h.below.size)).grown q2 (Nat.le_trans h.below.size b1.size) h.fv).setCell (p := ⟨S, 0, none⟩) h.hS _ }

set_option maxRecDepth 100000 in
set_option maxHeartbeats 2000000 in
theorem seen_one (w0 : World) (P S : Nat) (A : Option Addr) (cap : Nat) (s : List (BitVec 8) × Int) (Av : Option Addr) (cv : Nat) (ns : List Int) (hl : (ns.length + 1) * 8 ≤ 140737488355328) (n : Int) (hn : n < 9223372036854775808) (w : World) (h : St w0 w P S A cap s Av cv ns) :
    Calls Try.prog 32 #[.pointer (some ⟨P, 0, none⟩), .int .i64 n, .pointer (some ⟨S, 0, none⟩)] w fun e w' => e = .returned (.tuple #[]) ∧ ∃ A' cap' Av' cv', St w0 w' P S A' cap' (nuB s.1 s.2 n, nuF s.1 s.2 n) Av' cv' (ns ++ [n]) := by
  have gS := h.row.cell 0 _ rfl
  have b1 : Below w.heap.size w (w.alloc (Obj.cells #[.int .i64 n] 3)) := (Below.refl _ _).alloc (Nat.le_refl _) _
  have r1 : Row (w.alloc (Obj.cells #[.int .i64 n] 3)) w.heap.size [.int .i64 n] 3 := Row.new' rfl rfl
  have HO : Hid (Iw (w.alloc (Obj.cells #[.int .i64 n] 3)) (.slice Av ns.length cv) ns) := Iw.be h.own b1
  have R1 : Hid _ := r1
  have HL : Hid ((ns.length + 1) * 8 ≤ 140737488355328) := hl
  have RS : Hid (Row (w.alloc (Obj.cells #[.int .i64 n] 3)) S [.slice Av ns.length cv] 26) := Row.below h.row b1 h.row.lt
  have H : Hid (St w0 w P S A cap s Av cv ns) := h
  have B1 : Hid _ := b1
  clear h b1 r1 hl
  go_enter Try.func32, Try.ntmps32
  go_wp2_with (refine wpList_appi rfl (.tmp 5) (.tmp 7) rfl _ ns rfl HO.out w.heap.size n rfl R1.out HL.out ?_; intro v' w' q1 q2 q3; obtain ⟨Ax, cx, ex, _⟩ := Iw.form q1; subst ex; have rS := Gro.row (Gro.grown (Gro.refl _ _) q2 (fun g e => .inl e)) RS.out (fun e => Iw.ne HO.out RS.out (by decide) _ e rfl); have gS' := Row.cell rS 0 _ rfl; have fS' := Row.thaw rS 0; have RS' : Hid _ := rS; have Q1 : Hid _ := q1; have Q2 : Hid _ := q2; have Q3 : Hid _ := q3; clear q1 q2 q3 rS; simp only [Act.put, List.setIfInBounds_toArray, List.set_cons_zero, List.set_cons_succ])
  have H2 := H.out.see B1.out Q1.out Q2.out Q3.out
  have e1 : (Value.slice Ax (ns.length + 1) cx) = .slice Ax (ns ++ [n]).length cx := by rw [List.length_append]; rfl
  rw [e1]
  generalize w'.setCell ⟨S, 0, none⟩ (Value.slice Ax (ns ++ [n]).length cx) = X at *
  refine (number_any P A cap s.1 s.2 n hn H2.len X _ rfl H2.wr).mono ?_
  rintro e w3 ⟨rfl, ⟨A', cap', hw', hf'⟩, hG⟩
  have H3 : Hid (St _ _ _ _ _ _ _ _ _ _) := H2.num hw' hf' hG
  clear H2 hw' hf' hG
  go_wp2_with fail
  go_end0
  exact ⟨rfl, A', cap', Ax, cx, H3.out⟩

theorem func_kind : (Try.prog.underlying 60).map (fun d => match d with | .func .. => true | _ => false) = some true := by kernel_rfl
set_option maxRecDepth 100000 in
theorem func_nil (fn : Fn) (a b : Array Value) (w : World) : (binOp .eql 60 (.func fn a b) .nilFunc).run Try.prog w = .ok (.bool false) w := by
  have hk := func_kind
  cases h : Try.prog.underlying 60 with
  | none => rw [h] at hk; cases hk
  | some d =>
    rw [h] at hk
    cases d with
    | func =>
      have he : ∀ d, (Op.equalIn (d + 1) 60 (.func fn a b) .nilFunc).run Try.prog w = .ok false w := fun d => by simp [Op.equalIn, run_underlying h]
      have he2 : (Op.equal 60 (.func fn a b) .nilFunc).run Try.prog w = .ok false w := he 9999
      simp only [binOp]
      simp [he2]
    | _ => simp at hk
/-- What Lay ends with: so many of the list were handed on. -/
def Laid (w0 w : World) (P S : Nat) (s1 : List (BitVec 8) × Int) (l : List Int) : Prop := ∃ T A cap Av cv, T ≤ l.length ∧ St w0 w P S A cap (run s1 (l.take T)) Av cv (l.take T) ∧ (T = l.length ∨ ¬ (run s1 (l.take T)).2 = 0) ∧ ∀ j, j < T → (run s1 (l.take j)).2 = 0
/-- So far. -/
def So (s1 : List (BitVec 8) × Int) (l : List Int) (t : Nat) : Prop := ∀ j, j < t → (run s1 (l.take j)).2 = 0
theorem take_more (l : List Int) (t : Nat) (h : t < l.length) : l.take (t + 1) = l.take t ++ [l.getD t 0] := by
  rw [List.take_succ_eq_append_getElem h]; simp [h]

set_option maxRecDepth 100000 in
set_option maxHeartbeats 4000000 in
theorem lay_ints (w0 : World) (P S : Nat) (A : Option Addr) (cap : Nat) (s : List (BitVec 8) × Int) (Av : Option Addr) (cv : Nat) (l : List Int) (n : Nat) (hn : l.length = n) (hl : (n + 1) * 8 ≤ 140737488355328) (hb : ∀ i, i < n → l.getD i 0 < 9223372036854775808) (B : Option Addr) (c : Nat) (w : World) (hIn : InAt w0 B l) (h : St w0 w P S A cap s Av cv []) (s1 : List (BitVec 8) × Int) (hs1 : s1 = (nuB s.1 s.2 n, nuF s.1 s.2 n)) :
    Calls Try.prog 31 #[.pointer (some ⟨P, 0, none⟩), .slice B n c, .func (.func 32) #[] #[.pointer (some ⟨S, 0, none⟩)]] w fun e w' => e = .returned (.tuple #[]) ∧ Laid w0 w' P S s1 l := by
  have HN : Hid (l.length = n) := hn
  have HB : Hid (∀ i, i < n → l.getD i 0 < 9223372036854775808) := hb
  have HI : Hid (InAt w0 B l) := hIn
  have hn2 : n ≤ 17592186044416 := by omega
  have HL : Hid ((n + 1) * 8 ≤ 140737488355328) := hl
  have hfn := fun (w : World) => func_nil (.func 32) #[] #[.pointer (some ⟨S, 0, none⟩)] w
  have HC : Hid _ := number_any P A cap s.1 s.2 (n : Int) (by omega) h.len w _ rfl h.wr
  have H : Hid (St _ _ _ _ _ _ _ _ _ _) := h
  have HS1 : Hid (s1 = (nuB s.1 s.2 n, nuF s.1 s.2 n)) := hs1
  clear hn hb hIn hl h hs1
  go_enter Try.func31, Try.ntmps31
  go_wp2_with fail
  refine Calls.mono HC.out ?_
  rintro e w1 ⟨rfl, ⟨A1, cap1, hw1, hf1⟩, hG1⟩
  have H1 : Hid (St w0 w1 P S A1 cap1 s1 Av cv []) := by rw [HS1.out]; exact H.out.num hw1 hf1 hG1
  clear hw1 hf1 hG1 HC H
  go_wp2
  go_loopw [7, 20] (fun _ i wr => ∃ (t : Nat) (A' : Option Addr) (cap' : Nat) (Av' : Option Addr) (cv' : Nat), t ≤ n ∧ i = .int .i64 (t : Int) ∧ St w0 wr P S A' cap' (run s1 (l.take t)) Av' cv' (l.take t) ∧ So s1 l t) (fun _ i _ => n - (intOf i).toNat)
  case atStart => exact ⟨0, A1, cap1, Av, cv, Nat.zero_le _, rfl, H1.out, fun j hj => by omega⟩
  case round =>
    clear H1
    obtain ⟨t, A', cap', Av', cv', ht, rfl, hSt, hSo⟩ := hrel
    have H : Hid (St _ _ _ _ _ _ _ _ _ _) := hSt
    have HSo : Hid (So s1 l t) := hSo
    clear hSt hSo
    by_cases hlt : t < n
    · obtain ⟨b, o, rfl, hc⟩ := InAt.at (InAt.be HI.out H.out.below) t (by rw [HN.out]; exact hlt)
      have ET : Hid (l.take (t + 1) = l.take t ++ [l.getD t 0]) := take_more l t (by rw [HN.out]; exact hlt)
      have HX : Hid (l.getD t 0 < 9223372036854775808) := HB.out t hlt
      generalize l.getD t 0 = x at *
      by_cases hz : (run s1 (l.take t)).2 = 0
      · have HO : Hid _ := open_ok P _ wr (by have := H.out.wr.1; rw [hz] at this; exact this)
        have HZ : Hid ((run s1 (l.take t)).2 = 0) := hz
        clear hz
        go_wp2_with (first
          | (go_at_call 55; refine Calls.mono HO.out ?_; rintro e w2 ⟨rfl, rfl⟩)
          | (go_at_call 32; refine Calls.mono (seen_one w0 P S A' cap' _ Av' cv' _ (by rw [List.length_take, HN.out]; have := HL.out; omega) x HX.out _ H.out) ?_; rintro e w3 ⟨rfl, A3, cap3, Av3, cv3, h3⟩; have H3 : Hid (St _ _ _ _ _ _ _ _ _ _) := h3; clear h3))
        refine ⟨⟨t + 1, A3, cap3, Av3, cv3, hlt, by go_num, ?_, ?_⟩, by simp [intOf]; omega⟩
        · rw [ET.out, run_snoc]; exact H3.out
        · intro j hj
          by_cases e : j < t
          · exact HSo.out j e
          · obtain rfl : j = t := by omega
            exact HZ.out
      · have HO : Hid _ := open_no P _ _ hz wr H.out.wr.1
        have HZ : Hid (¬ (run s1 (l.take t)).2 = 0) := hz
        clear hz
        go_wp2_with (go_at_call 55; refine Calls.mono HO.out ?_; rintro e w2 ⟨rfl, rfl⟩)
        first | go_end0 | refine bodyPost_ret (results_none rfl _ _ _) rfl ?_
        exact ⟨rfl, t, A', cap', Av', cv', by rw [HN.out]; exact ht, H.out, .inr HZ.out, HSo.out⟩
    · obtain rfl : t = n := by omega
      go_wp2
      first | go_end0 | refine bodyPost_ret (results_none rfl _ _ _) rfl ?_
      exact ⟨rfl, t, A', cap', Av', cv', by rw [HN.out]; exact ht, H.out, .inl HN.out.symm, HSo.out⟩

end Go.Proofs.Ytmkmdbpibpbcjab
