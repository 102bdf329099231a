/-
  jumpsLead.
-/
import Derived.Test.YtdlmighfmkhpkaaMkH
namespace Go.Proofs.Ytdlmighfmkhpkaa
open Go Go.RowKit
open Sha
open Wd

theorem leads_not {ls : List Ins} {t : Nat} {x : Ins} (hx : ls[t]? = some x) (h5 : oper x.c = 5) (hn : ls.any (fun j => j.p == x.n) = false) : leads ls = false := by
  unfold leads
  rw [List.all_eq_false]
  refine ⟨x, List.mem_of_getElem? hx, ?_⟩
  rw [hn, h5]
  decide
def ledT (ls : List Ins) (t : Nat) : Bool := (ls.take t).all fun i => oper i.c != 5 || ls.any (fun j => j.p == i.n)
theorem ledT_more {ls : List Ins} {t : Nat} {x : Ins} (hx : ls[t]? = some x) (h : ledT ls t = true) (hy : oper x.c ≠ 5 ∨ ls.any (fun j => j.p == x.n) = true) : ledT ls (t + 1) = true := by
  unfold ledT at h ⊢
  rw [List.take_add_one, hx, List.all_append, h]
  simp only [Option.toList_some, List.all_cons, List.all_nil, Bool.and_true, Bool.true_and]
  rcases hy with q | q
  · rw [show (oper x.c != 5) = true by simpa using q]; rfl
  · rw [q]; simp
theorem ledT_all {ls : List Ins} (h : ledT ls ls.length = true) : leads ls = true := by
  unfold ledT at h
  rw [List.take_length] at h
  exact h
set_option maxRecDepth 100000 in
set_option maxHeartbeats 4000000 in
theorem jumpsLead_any (T gs n : Nat) (ls : List Ins) (v : Value) (hls : ∀ y ∈ ls, y.p < n ∧ y.c < 28 ∧ y.n < 65536) (hlen : ls.length ≤ 1024) (w : World) (hT : Row w T mtab 72) (hv : Lw w 64 7 v ls.length (fl ls)) (hs : Row w gs (vI (sts ls n)) 3) : Calls Try.prog 18 #[.agg #[v, .slice (some ⟨gs, 0, none⟩) n n], .slice (some ⟨T, 0, none⟩) 28 28] w fun e w' => e = .returned (.bool (leads ls)) ∧ Below w.heap.size w w' := by
  obtain ⟨A, cap, rfl, hcap, hA⟩ := Lw.form hv
  have HV : Hid (Lw w 64 7 (.slice A ls.length cap) ls.length (fl ls)) := hv
  have HT : Hid (Row w T mtab 72) := hT
  have HST : Hid (Row w gs (vI (sts ls n)) 3) := hs
  have HLS : Hid (∀ y ∈ ls, y.p < n ∧ y.c < 28 ∧ y.n < 65536) := hls
  clear hv hT hs hls hcap hA
  go_enter Try.func18, Try.ntmps18
  go_wp2_with (refine wpList_boxG 49 rfl (.tmp 0) rfl [.slice A ls.length cap, .slice (some ⟨gs, 0, none⟩) n n] rfl ?_; intro X q1 q2 q3; have R1 : Hid (Row X w.heap.size [.slice A ls.length cap, .slice (some ⟨gs, 0, none⟩) n n] 49) := q1; have B1 : Hid (Below w.heap.size w X) := q2; have c0 := q1.cell 0 _ rfl; clear q1 q2 q3; simp only [Act.put, List.setIfInBounds_toArray, List.set_cons_zero, List.set_cons_succ])
  go_loopw [10] (fun v wr => ∃ t : Nat, t ≤ ls.length ∧ v = .int .i64 (t : Int) ∧ Hid (Below w.heap.size w wr) ∧ Hid (Row wr w.heap.size [.slice A ls.length cap, .slice (some ⟨gs, 0, none⟩) n n] 49) ∧ Hid (ledT ls t = true)) (fun v _ => ls.length - (intOf v).toNat)
  case atStart => exact ⟨0, Nat.zero_le _, rfl, B1, R1, by show _ = _; unfold ledT; simp⟩
  case round =>
    obtain ⟨t, ht, rfl, HB, HBX, HLD⟩ := hrel
    clear B1 R1 c0
    by_cases hlt : t < ls.length
    · obtain ⟨x, hx⟩ : ∃ x, ls[t]? = some x := ⟨_, List.getElem?_eq_getElem hlt⟩
      have hxm := HLS.out x (List.mem_of_getElem? hx)
      have hxc : x.c < 28 := hxm.2.1
      have HX : Hid (ls[t]? = some x) := hx
      obtain ⟨g, cap', e, hcc⟩ := Lw.open HV.out (by omega)
      simp only [Value.slice.injEq] at e
      obtain ⟨rfl, _, rfl⟩ := e
      obtain ⟨L, hL⟩ : ∃ L, L = ic x.c x.p x.a x.n := ⟨_, rfl⟩
      have HL : Hid (L = ic x.c x.p x.a x.n) := hL
      have RG : Hid (wr.rangeAt g (t * 7) L) := by rw [hL]; exact range_be (fl_at (Lw.range HV.out) t x hx) HB.out
      have HI : Hid ((Try.prog.info? 64).map (·.size) = some L.length) := by show _ = _; rw [hL]; exact info_Ic _ _ _ _
      have HN7 : Hid (L.length = zI.length) := by show _ = _; rw [hL]; exact ic_len _ _ _ _
      have HO : Hid (L.toArray.all (·.oneCell') = true) := by show _ = _; rw [hL]; exact ic_one _ _ _ _
      have HXN6 : Hid (x.n < 65536) := hxm.2.2
      clear hL hx hxm hcc
      go_upto_region 4 with (first
        | (refine wpList_load_w rfl 64 (.tmp 12) rfl g (t * 7) rfl L _ RG.out Try.underlying64 rfl HI.out ?_; simp only [Act.put, List.setIfInBounds_toArray, List.set_cons_zero, List.set_cons_succ])
        | (refine wpList_allocI rfl rfl ?_; intro X2 q1 q2 q3; have R2 : Hid (Row X2 wr.heap.size zI 64) := q1; have B2 : Hid (Below wr.heap.size wr X2) := q2; clear q1 q2 q3; simp only [Act.put, List.setIfInBounds_toArray, List.set_cons_zero, List.set_cons_succ])
        | (refine wpList_storeL rfl 64 (.tmp 6) (.tmp 13) rfl wr.heap.size L zI 64 rfl rfl R2.out HN7.out HI.out HO.out ?_; intro X3 q1 q2; have E3 : Hid (X3 = _) := q1; have R3 : Hid (Row X3 wr.heap.size L 64) := q2; clear q1 q2; simp only [Act.put]))
      have BB3 : Below w.heap.size w X3 := by rw [E3.out]; exact below_setCells (HB.out.trans (B2.out.mono HB.out.size)) HB.out.size _
      have BX : Hid (Below w.heap.size w X3) := BB3
      have RB3 : Hid (Row X3 w.heap.size [.slice (some ⟨g, 0, none⟩) ls.length cap, .slice (some ⟨gs, 0, none⟩) n n] 49) := by rw [E3.out]; exact Row.setCells_other (Row.below HBX.out B2.out HBX.out.lt) _ _ _ (Nat.ne_of_lt HBX.out.lt)
      have RS3 : Hid (Row X3 gs (vI (sts ls n)) 3) := Row.below HST.out BB3 HST.out.lt
      have R3' : Row X3 wr.heap.size (ic x.c x.p x.a x.n) 64 := by rw [← HL.out]; exact R3.out
      have c0 := R3'.cell 0 _ (ic_0 _ _ _ _)
      have c6 := R3'.cell 6 _ (ic_6 _ _ _ _)
      have ct := (Row.below HT.out BB3 HT.out.lt).cell (x.c * 6 + 1) _ (mtab_oper x.c hxc)
      have hx28 : x.c < 28 := hxc
      obtain ⟨k, hk⟩ : ∃ k, k = oper x.c := ⟨_, rfl⟩
      rw [← hk] at ct
      obtain ⟨xc, hxc'⟩ : ∃ xc, xc = x.c := ⟨_, rfl⟩
      obtain ⟨xn, hxn'⟩ : ∃ xn, xn = x.n := ⟨_, rfl⟩
      rw [← hxc'] at c0 ct hx28
      rw [← hxn'] at c6
      have HK : Hid (k = oper x.c) := hk
      have HXN : Hid (xn = x.n) := hxn'
      clear hk hxc' hxn' R3' BB3 R3 E3 R2 B2 hxc
      by_cases k5 : k = 5
      · have HBG : Hid _ := begins_any (.slice (some ⟨g, 0, none⟩) ls.length cap) gs n xn ls (fun y hy => (HLS.out y hy).1) X3 RS3.out
        cases hany : ls.any (fun j => j.p == xn) with
        | true =>
          rw [hany] at HBG
          have HD : Hid (ledT ls (t + 1) = true) := ledT_more HX.out HLD.out (.inr (by rw [← HXN.out]; exact hany))
          subst k5
          clear hany
          go_wp2_with (first
            | (refine wpList_load_w rfl 49 (.tmp 2) rfl w.heap.size 0 rfl [.slice (some ⟨g, 0, none⟩) ls.length cap, .slice (some ⟨gs, 0, none⟩) n n] _ RB3.out.all Try.underlying49 rfl info_P ?_; simp only [Act.put, List.setIfInBounds_toArray, List.set_cons_zero, List.set_cons_succ])
            | (go_at_call 53; refine Calls.mono HBG.out ?_; rintro e X4 ⟨rfl, q⟩; have B4 : Hid (Below w.heap.size w X4) := BX.out.trans (q.mono BX.out.size); have RB4 : Hid (Row X4 w.heap.size [.slice (some ⟨g, 0, none⟩) ls.length cap, .slice (some ⟨gs, 0, none⟩) n n] 49) := Row.below RB3.out q RB3.out.lt; clear q))
          refine ⟨⟨t + 1, hlt, by go_num, B4, RB4, HD⟩, by simp [intOf]; omega⟩
        | false =>
          rw [hany] at HBG
          have HD : Hid (leads ls = false) := leads_not HX.out (by rw [← HK.out]; exact k5) (by rw [← HXN.out]; exact hany)
          subst k5
          clear hany
          go_wp2_with (first
            | (refine wpList_load_w rfl 49 (.tmp 2) rfl w.heap.size 0 rfl [.slice (some ⟨g, 0, none⟩) ls.length cap, .slice (some ⟨gs, 0, none⟩) n n] _ RB3.out.all Try.underlying49 rfl info_P ?_; simp only [Act.put, List.setIfInBounds_toArray, List.set_cons_zero, List.set_cons_succ])
            | (go_at_call 53; refine Calls.mono HBG.out ?_; rintro e X4 ⟨rfl, q⟩; have B4 : Hid (Below w.heap.size w X4) := BX.out.trans (q.mono BX.out.size); clear q))
          go_ret
          exact ⟨by rw [HD.out]; rfl, B4.out⟩
      · have HD : Hid (ledT ls (t + 1) = true) := ledT_more HX.out HLD.out (.inl (by rw [← HK.out]; exact k5))
        go_wp2
        refine ⟨⟨t + 1, hlt, by go_num, BX, RB3, HD⟩, by simp [intOf]; omega⟩
    · have et : t = ls.length := by omega
      have HD : Hid (leads ls = true) := ledT_all (by rw [← et]; exact HLD.out)
      clear HLD
      have e4 : (t : Int) = (ls.length : Int) := by omega
      rw [e4]
      clear e4 et ht hlt
      go_wp2
      go_ret
      exact ⟨by rw [HD.out]; rfl, HB.out⟩

end Go.Proofs.Ytdlmighfmkhpkaa
