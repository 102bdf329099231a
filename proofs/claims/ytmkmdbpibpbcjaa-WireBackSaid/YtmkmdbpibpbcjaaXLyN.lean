/-
  Lay of numbers, by the law's layNumber.
-/
import Derived.Test.YtmkmdbpibpbcjaaXPos
namespace Go.Proofs.Ytmkmdbpibpbcjaa
open Go Go.RowKit
open Sha

def fms (ns : List Nat) (t : Nat) : List (BitVec 8) := ((ns.take t).map fun n => fm [n, 0, 0, 0] (nb n 0 0 0)).flatten
theorem fms_succ (ns : List Nat) (t : Nat) (h : t < ns.length) : fms ns (t + 1) = fms ns t ++ fm [ns.getD t 0, 0, 0, 0] (nb (ns.getD t 0) 0 0 0) := by
  unfold fms
  rw [List.take_succ_eq_append_getElem h, List.map_append, List.flatten_append]
  congr 1
  simp [h]
theorem fms_le (ns : List Nat) (t : Nat) : (fms ns t).length ≤ (fms ns ns.length).length := by
  unfold fms
  have e : ns.take ns.length = ns.take t ++ ns.drop t := by rw [List.take_length, List.take_append_drop]
  rw [e, List.map_append, List.flatten_append, List.length_append]
  omega
theorem Iw.in' {w : World} {A : Option Addr} {c n : Nat} {d : List Int} (h : Iw w (.slice A n c) d) : InAt w A d := by
  obtain ⟨A', c', e, hi⟩ := Iw.in h
  simp only [Value.slice.injEq] at e
  rw [e.1]; exact hi
/-- A writer beside numbers that it lays. -/
structure Wi (w0 : World) (w : World) (Q : Nat) (A : Option Addr) (cap : Nat) (xs : List (BitVec 8)) (v : Value) (ns : List Nat) : Prop where
  wk : Wk w0 w Q A cap (xs, 0)
  own : Iw w v (nI ns)
  sep : ∀ g, v.ownBlock = some g → ¬ Rw Q A cap xs g
theorem Wi.laid {w0 : World} {w w' : World} {Q : Nat} {A : Option Addr} {cap : Nat} {xs : List (BitVec 8)} {v : Value} {ns : List Nat} (h : Wi w0 w Q A cap xs v ns) {d : List (BitVec 8)} (k : Beh w w' Q A cap xs 0 d) (hl : xs.length + d.length ≤ 4194304) :
    ∃ A' cap', Wi w0 w' Q A' cap' (xs ++ d) v ns := by
  obtain ⟨A', cap', c, hf⟩ := h.wk.laid k hl
  refine ⟨A', cap', ⟨c, Iw.gro h.own k.2 h.sep, fun g q r => ?_⟩⟩
  rcases r with r | r
  · exact h.sep g q (.inl r)
  · rcases hf g r with r3 | r3
    · exact h.sep g q (.inr r3)
    · have := Iw.lt h.own g q; omega
theorem nfunc_kind : (Try.prog.underlying 107).map (fun d => match d with | .func .. => true | _ => false) = some true := by kernel_rfl
theorem nfunc_nil (fn : Fn) (a b : Array Value) (w : World) : (binOp .eql 107 (.func fn a b) .nilFunc).run Try.prog w = .ok (.bool false) w := by
  have hk := nfunc_kind
  cases h : Try.prog.underlying 107 with
  | none => rw [h] at hk; cases hk
  | some d =>
    rw [h] at hk
    cases d with
    | func =>
      have he : ∀ d, (Op.equalIn (d + 1) 107 (.func fn a b) .nilFunc).run Try.prog w = .ok false w := fun d => by simp [Op.equalIn, run_underlying h]
      have he2 : (Op.equal 107 (.func fn a b) .nilFunc).run Try.prog w = .ok false w := he 9999
      simp only [binOp]
      simp [he2]
    | _ => simp at hk
set_option maxRecDepth 100000 in
theorem layNumber_any (Q : Nat) (A : Option Addr) (cap : Nat) (xs : List (BitVec 8)) (hB : xs.length ≤ 4194304) (n : Nat) (hn : n < 9223372036854775807) (w : World) (hw : Wr w Q A cap xs 0) :
    Calls Try.prog 81 #[.pointer (some ⟨Q, 0, none⟩), .int .i64 (n : Int)] w fun e w' => e = .returned (.tuple #[]) ∧ Beh w w' Q A cap xs 0 (fm [n, 0, 0, 0] (nb n 0 0 0)) := by
  have HC : Hid _ := number_in Q A cap xs 0 n (by omega) _ rfl hB w (Rw Q A cap xs) rfl hw
  clear hw hB
  go_enter Try.func81, Try.ntmps81
  go_wp2_with fail
  refine Calls.mono HC.out ?_
  rintro e w' ⟨rfl, h1⟩
  have H1 : Hid _ := h1
  clear h1
  go_wp2_with fail
  go_end0
  exact ⟨rfl, H1.out⟩

set_option maxRecDepth 100000 in
set_option maxHeartbeats 4000000 in
theorem lay_nums (w0 : World) (Q : Nat) (A : Option Addr) (cap : Nat) (xs : List (BitVec 8)) (Av : Option Addr) (cv : Nat) (ns : List Nat) (n : Nat) (hn : ns.length = n) (hn4 : n ≤ 4194304) (w : World) (h : Wi w0 w Q A cap xs (.slice Av n cv) ns)
    (hT : xs.length + ((fm [n, 0, 0, 0] (nb n 0 0 0)).length + (fms ns n).length) ≤ 4194304) (hp : ∀ i, i < n → ns.getD i 0 < 9223372036854775807) :
    Calls Try.prog 79 #[.pointer (some ⟨Q, 0, none⟩), .slice Av n cv, .func (.func 81) #[] #[]] w fun e w' => e = .returned (.tuple #[]) ∧ (∃ A' cap', Wk w0 w' Q A' cap' (xs ++ (fm [n, 0, 0, 0] (nb n 0 0 0) ++ fms ns n), 0)) := by
  have hfn := fun w => nfunc_nil (.func 81) #[] #[] w
  have HX : Hid (xs.length ≤ 4194304) := by show _ ≤ _; omega
  have HC : Hid _ := number_in Q A cap xs 0 n (by omega) _ rfl HX.out w (Rw Q A cap xs) rfl h.wk.wr
  obtain ⟨F, hF⟩ : ∃ F, F = fm [n, 0, 0, 0] (nb n 0 0 0) := ⟨_, rfl⟩
  rw [← hF] at HC hT ⊢
  have H : Hid (Wi _ _ _ _ _ _ _ _) := h
  have HT : Hid (xs.length + (F.length + (fms ns n).length) ≤ 4194304) := hT
  have HP : Hid (∀ i, i < n → ns.getD i 0 < 9223372036854775807) := hp
  have HN : Hid (ns.length = n) := hn
  clear h hT hp hn hF
  go_enter Try.func79, Try.ntmps79
  go_wp2_with fail
  refine Calls.mono HC.out ?_
  rintro e W1 ⟨rfl, hbeh⟩
  obtain ⟨A1, cap1, cl1⟩ := H.out.laid (show Beh w W1 Q A cap xs 0 F from hbeh) (by have := HT.out; omega)
  have CL1 : Hid (Wi w0 W1 Q A1 cap1 (xs ++ F) (.slice Av n cv) ns) := cl1
  clear hbeh cl1 HC H
  go_wp2
  go_loopw [7, 20] (fun _ i wr => ∃ (t : Nat) (A' : Option Addr) (cap' : Nat), t ≤ n ∧ i = .int .i64 (t : Int) ∧ Wi w0 wr Q A' cap' (xs ++ (F ++ fms ns t)) (.slice Av n cv) ns) (fun _ i _ => n - (intOf i).toNat)
  case atStart => exact ⟨0, A1, cap1, Nat.zero_le _, rfl, by rw [show fms ns 0 = [] from rfl, List.append_nil]; exact CL1.out⟩
  case round =>
    clear CL1
    obtain ⟨t, A', cap', ht, rfl, hcl⟩ := hrel
    have CL : Hid (Wi _ _ _ _ _ _ _ _) := hcl
    by_cases hlt : t < n
    · have hin := Iw.in' hcl.own
      obtain ⟨g, o, rfl, gc⟩ := InAt.at hin t (by rw [nI_len, HN.out]; exact hlt)
      have eg : (nI ns).getD t 0 = ((ns.getD t 0 : Nat) : Int) := by unfold nI; have : t < ns.length := by rw [HN.out]; exact hlt
                                                                     simp [this]
      rw [eg] at gc
      have hlen := fms_le ns (t + 1)
      rw [HN.out] at hlen
      have hsucc := fms_succ ns t (by rw [HN.out]; exact hlt)
      have hpl : (fms ns (t + 1)).length = (fms ns t).length + (fm [ns.getD t 0, 0, 0, 0] (nb (ns.getD t 0) 0 0 0)).length := by rw [hsucc, List.length_append]
      have HLB : Hid _ := layNumber_any Q A' cap' (xs ++ (F ++ fms ns t)) (by rw [List.length_append, List.length_append]; have := HT.out; omega) (ns.getD t 0) (HP.out t hlt) wr hcl.wk.wr
      have HO : Hid _ := open_ok Q _ wr hcl.wk.wr.1
      have HSU : Hid (xs ++ (F ++ fms ns (t + 1)) = (xs ++ (F ++ fms ns t)) ++ fm [ns.getD t 0, 0, 0, 0] (nb (ns.getD t 0) 0 0 0)) := by show _ = _; rw [hsucc]; simp [List.append_assoc]
      have HLL : Hid ((xs ++ (F ++ fms ns t)).length + (fm [ns.getD t 0, 0, 0, 0] (nb (ns.getD t 0) 0 0 0)).length ≤ 4194304) := by show _ ≤ _; rw [List.length_append, List.length_append]; have := HT.out; omega
      clear hcl hlen hsucc hpl hin eg
      generalize ns.getD t 0 = m at *
      go_wp2_with (first
        | (go_at_call 122; refine Calls.mono HO.out ?_; rintro e w2 ⟨rfl, hq⟩; obtain rfl := hq.symm)
        | fail)
      refine Calls.mono HLB.out ?_
      rintro e W3 ⟨rfl, hb3⟩
      obtain ⟨A3, cap3, cl3⟩ := CL.out.laid hb3 HLL.out
      rw [← HSU.out] at cl3
      have CL3 : Hid (Wi _ _ _ _ _ _ _ _) := cl3
      clear hb3 cl3 HLB HO
      go_wp2_with fail
      exact ⟨⟨t + 1, A3, cap3, hlt, by go_num, CL3.out⟩, by simp [intOf]; omega⟩
    · obtain rfl : t = n := by omega
      clear hcl
      go_wp2
      first | go_end0 | refine bodyPost_ret (results_none rfl _ _ _) rfl ?_
      exact ⟨rfl, A', cap', CL.out.wk⟩

end Go.Proofs.Ytmkmdbpibpbcjaa
