/-
  the inbox: boxed, Alike of entries that are the same, Check of a row that leads.
-/
import Derived.Test.YtfjhecmnbodkfaaGreatDoorIbK
namespace Go.Proofs.YtfjhecmnbodkfaaGreatDoor
open Go Go.RowKit
open Sha

/-- Each entry may be, and none is below the one ahead of it. -/
structure Okr (es : List Ev) : Prop where
  ok : ∀ e ∈ es, e.Wf ∧ e.May
  up : ∀ (i : Nat) (e : Ev), es[i]? = some e → ¬ e.tm < ltm es i
theorem Okr.wf {es : List Ev} (h : Okr es) {i : Nat} {e : Ev} (he : es[i]? = some e) : e.Wf ∧ e.May := h.ok e (List.mem_of_getElem? he)
theorem ltm_take (es : List Ev) (i : Nat) : ltm (es.take i) i = ltm es i := by
  cases i with
  | zero => rfl
  | succ i => simp only [ltm]; rw [List.getElem?_take_of_lt (by omega)]
set_option maxRecDepth 100000 in
set_option maxHeartbeats 8000000 in
theorem boxed_any (es : List Ev) (ho : Okr es) (A0 : Option Addr) (N c0 : Nat) (hN : N = es.length) (hNb : N ≤ 100000) (w : World) (hT : Tab w 1) (h0 : EsAt w A0 es) :
    Calls Tryz.prog 21 #[.slice A0 N c0] w fun r w' => ∃ p v, r = .returned (.pointer (some ⟨p, 0, none⟩)) ∧ Bx w w' p v es := by
  have HO : Hid (Okr es) := ho
  have HN : Hid (N = es.length) := hN
  have HT : Hid (∀ X, Below w.heap.size w X → Tab X 1) := fun X k => hT.below k hT.lt
  have HES : Hid (EsAt w A0 es) := h0
  clear ho hN hT h0
  go_enter Tryz.func21, Tryz.ntmps21
  go_upto_region 2 with (go_at_call 6; refine Calls.mono (bnew_any w) ?_; rintro e1 X1 ⟨p, rfl, q⟩; have K1 : Hid (Bx w X1 p (.slice none 0 0) (es.take 0)) := q; clear q)
  go_wp2_with fail
  go_loopw [4] (fun v4 wr => ∃ (i : Nat) (v : Value), i ≤ N ∧ v4 = .int .i64 (i : Int) ∧ Hid (Bx w wr p v (es.take i))) (fun v4 _ => N - (intOf v4).toNat)
  case atStart => exact ⟨0, _, Nat.zero_le _, rfl, K1⟩
  case round =>
    obtain ⟨i, v, hi, rfl, HB⟩ := hrel
    clear K1
    by_cases hlt : i < N
    · obtain ⟨e, he⟩ : ∃ e, es[i]? = some e := ⟨_, List.getElem?_eq_getElem (by have := HN.out; omega)⟩
      obtain ⟨b, o, A', c', hA0, hrg, hsl, hnil⟩ := HES.out i e he
      subst hA0
      obtain ⟨hw, hm⟩ := HO.out.wf he
      obtain ⟨n, hn⟩ : ∃ n, n = e.d.length := ⟨_, rfl⟩
      rw [← hn] at hrg hsl
      obtain ⟨L, hL⟩ : ∃ L, L = e.cells (.slice A' n c') := ⟨_, rfl⟩
      rw [← hL] at hrg
      obtain ⟨q, hq⟩ : ∃ q, q = o + i * 49 := ⟨_, rfl⟩
      have HQ : Hid (o + i * 49 = q) := hq.symm
      rw [← hq] at hrg
      have hl : (es.take i).length = i := by rw [List.length_take]; have := HN.out; omega
      have hte : es.take i ++ [e] = es.take (i + 1) := by rw [List.take_add_one, he]; rfl
      have HIN : Hid (i < N) := hlt
      have HI : Hid ((Tryz.prog.info? 46).map (·.size) = some L.length) := by rw [hL]; exact Ev.info hw _
      have HR : Hid (∀ X, Below w.heap.size w X → X.rangeAt b q L) := fun X k => range_be hrg k
      have HAD : Hid (∀ X, Bx w X p v (es.take i) → Calls Tryz.prog 26 #[.pointer (some ⟨p, 0, none⟩), .agg L.toArray] X fun r w' => r = .returned (.tuple #[.int .i64 (i : Int), .int .i64 0]) ∧ ∃ v', Bx w w' p v' (es.take (i + 1))) := fun X hb => by
        have hup := HO.out.up i e he
        refine (add_ok w p v (es.take i) (by omega) e hw hm (by rw [hl, ltm_take]; exact hup) A' n c' hn.symm hnil L hL X hb (HT.out X hb.be) (hsl.be hb.be)).mono ?_
        rintro r w' ⟨q1, v', q2, _⟩
        rw [hl] at q1
        rw [hte] at q2
        exact ⟨q1, v', q2⟩
      clear he hrg hsl hnil hw hm hn hL hq hl hte
      go_upto_region 8 with (first
        | (refine wpList_ixO 52 46 (.tmp 18) (.tmp 19) rfl b o N c0 i 49 q HQ.out rfl rfl HIN.out Tryz.underlying52 info_ent rfl ?_; simp only [Act.put, List.setIfInBounds_toArray, List.set_cons_zero, List.set_cons_succ])
        | (refine wpList_load_w rfl 46 (.tmp 20) rfl b q rfl L _ (HR.out wr HB.out.be) Tryz.underlying46 rfl HI.out ?_; simp only [Act.put, List.setIfInBounds_toArray, List.set_cons_zero, List.set_cons_succ])
        | (go_at_call 26; refine Calls.mono (HAD.out wr HB.out) ?_; rintro e2 X2 ⟨rfl, v2, q1⟩; have K2 : Hid (Bx w X2 p v2 (es.take (i + 1))) := q1; clear q1))
      clear HAD HR HI HB
      go_wp2_with fail
      go_roundw
      case rel => exact ⟨i + 1, v2, hlt, rfl, K2⟩
      case measure => simp [intOf]; omega
    · obtain rfl : i = N := by omega
      have h1 : ¬ ((i : Int) < (i : Int)) := by omega
      go_wp2
      go_ret
      have hB := HB.out
      rw [HN.out, List.take_length] at hB
      exact ⟨p, rfl, v, hB⟩
end Go.Proofs.YtfjhecmnbodkfaaGreatDoor
