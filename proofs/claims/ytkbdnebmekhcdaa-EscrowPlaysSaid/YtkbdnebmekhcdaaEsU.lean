/-
  The document's vault.
-/
import Derived.Test.YtkbdnebmekhcdaaEsJ
namespace Go.Proofs.Ytkbdnebmekhcdaa
open Go Go.RowKit Go.Maps
open Wd

/-- Something that was done. -/
structure Acv where
  k : Int
  ix : Int
  tk : Int
  m : Nat
def Acv.cells (r : Acv) : List Value := .int .i64 r.k :: .int .i64 r.ix :: .int .i64 r.tk :: vQ (dgs r.m 4)
theorem Acv.len (r : Acv) : r.cells.length = 7 := by simp [Acv.cells, vQ_length, dgs_length]
/-- The acts lie there. -/
def Aa (w : World) (A : Option Addr) (l : List Acv) : Prop := ∀ i r, l[i]? = some r → r.m < 2 ^ 256 ∧ ∃ b o, A = some ⟨b, o, none⟩ ∧ w.rangeAt b (o + i * 7) r.cells
structure Rv (w : World) (q : Nat) (A : Option Addr) (n cap : Nat) (l : List Acv) : Prop where
  row : Row w q [.slice A n cap] 75
  ln : n = l.length
  nb : n < 35184372088832
  a : Aa w A l
theorem und_As : Try.prog.underlying 73 = some (.slice 91) := by kernel_rfl
theorem info_Ac : (Try.prog.info? 91).map (·.size) = some 7 := by kernel_rfl
def stepL (t : Int) (a : Bool × Bool) (r : Acv) : Bool × Bool := if r.tk ≠ t then a else if r.k = 0 then (true, a.2) else if r.k = 1 then (a.1, true) else if r.k = 2 then (a.1, false) else a
def rl (l : List Acv) (t : Int) : Bool × Bool := l.foldl (stepL t) (false, false)
theorem st_ne {t : Int} {a : Bool × Bool} {r : Acv} (h : ¬ r.tk = t) : stepL t a r = a := if_pos h
theorem st_0 {t : Int} {x y : Bool} {r : Acv} (h : r.tk = t) (hk : r.k = 0) : stepL t (x, y) r = (true, y) := by
  unfold stepL
  rw [if_neg (fun q => q h), if_pos hk]
theorem st_1 {t : Int} {x y : Bool} {r : Acv} (h : r.tk = t) (hk : r.k = 1) : stepL t (x, y) r = (x, true) := by
  unfold stepL
  rw [if_neg (fun q => q h), if_neg (by omega), if_pos hk]
theorem st_2 {t : Int} {x y : Bool} {r : Acv} (h : r.tk = t) (hk : r.k = 2) : stepL t (x, y) r = (x, false) := by
  unfold stepL
  rw [if_neg (fun q => q h), if_neg (by omega), if_neg (by omega), if_pos hk]
theorem st_x {t : Int} {a : Bool × Bool} {r : Acv} (h0 : ¬ r.k = 0) (h1 : ¬ r.k = 1) (h2 : ¬ r.k = 2) : stepL t a r = a := by
  unfold stepL
  rw [if_neg h0, if_neg h1, if_neg h2]
  exact ite_self a
theorem take_more {α : Type} (l : List α) (i : Nat) (r : α) (h : l[i]? = some r) : l.take (i + 1) = l.take i ++ [r] := by
  rw [List.take_add_one, h]
  rfl
theorem rl_more (l : List Acv) (t : Int) (i : Nat) (r : Acv) (h : l[i]? = some r) : rl (l.take (i + 1)) t = stepL t (rl (l.take i) t) r := by
  rw [take_more l i r h]
  unfold rl
  rw [List.foldl_append]
  rfl

theorem wp_ixsU {P : Program} {Q : Exit → Act → World → Prop} {o : Oper} {a : Act} {w : World} {K : Act → World → Prop} (T e : TypeId) {x y : Operand} (ho : o.op = .indexAddr T x y) (b f n c t s : Nat) (hx : a.eval x = .slice (some ⟨b, f, none⟩) n c) (hy : a.eval y = .int .i64 (t : Int)) (ht : t < n)
    (hu : P.underlying T = some (.slice e)) (hs : (P.info? e).map (·.size) = some s) (h : K (a.put o.dst (.pointer (some ⟨b, f + t * s, none⟩))) w) : Oper.wp P o a w K Q := by
  refine wp_pure (v := .pointer (some ⟨b, f + t * s, none⟩)) ?_ h
  have hr : (Instr.indexAt T (.slice (some ⟨b, f, none⟩) n c) (.int .i64 (t : Int))).run P w = .ok (.pointer (some ⟨b, f + t * s, none⟩)) w := by
    cases hi : P.info? e with
    | none => rw [hi] at hs; cases hs
    | some ie =>
      rw [hi] at hs
      have h4 : ie.size = s := by simpa using hs
      simp [Instr.indexAt, run_underlying hu, asIntOf, ht, sizeOf, typeInfo, hi, h4, Addr.add_mid]
  unfold execOp
  simp only [ho, hx, hy, Sem.run_bind, hr, Result.andThen_ok]
  rfl
theorem wpList_ixsU {P : Program} {ops : Array Oper} {rest : List Oper} {op : Oper} {a : Act} {w : World} {Q : Exit → Act → World → Prop} (T e : TypeId) (x y : Operand) (ho : op.op = .indexAddr T x y) (b f n c t s : Nat) (hx : a.eval x = .slice (some ⟨b, f, none⟩) n c) (hy : a.eval y = .int .i64 (t : Int)) (ht : t < n)
    (hu : P.underlying T = some (.slice e)) (hs : (P.info? e).map (·.size) = some s) (hw : Region.wanted op (yielded ops a.tmps) = true) (h : wpList P ops Q rest (a.put op.dst (.pointer (some ⟨b, f + t * s, none⟩))) w) : wpList P ops Q (op :: rest) a w :=
  BigFrame.wpList_want hw fun _ hK => wp_ixsU T e ho b f n c t s hx hy ht hu hs (hK _ _ h)

set_option maxRecDepth 100000 in
set_option maxHeartbeats 4000000 in
theorem rlisted_any {w : World} {q n cap : Nat} {A : Option Addr} {l : List Acv} (h : Rv w q A n cap l) (t : Int) : Calls Try.prog 39 #[.pointer (some ⟨q, 0, none⟩), .int .i64 t] w fun e w' => e = .returned (.tuple #[.bool (rl l t).1, .bool (rl l t).2]) ∧ w' = w := by
  have HR : Hid (Rv w q A n cap l) := h
  have c0 := h.row.cell 0 _ rfl
  have hnb := h.nb
  clear h
  go_enter Try.func39, Try.ntmps39
  go_wp2_with fail
  go_loopw [6, 7, 8] (fun v6 v7 v8 wr => ∃ (i : Nat) (x y : Bool), i ≤ n ∧ v8 = .int .i64 (i : Int) ∧ v6 = .bool x ∧ v7 = .bool y ∧ Hid (rl (l.take i) t = (x, y)) ∧ Hid (wr = w)) (fun _ _ v8 _ => n - (intOf v8).toNat)
  case atStart => exact ⟨0, false, false, Nat.zero_le _, rfl, rfl, rfl, rfl, rfl⟩
  case round =>
    obtain ⟨i, x, y, hi, rfl, rfl, rfl, HX, HW⟩ := hrel
    obtain rfl := HW.out.symm
    by_cases hin : i < n
    · obtain ⟨r, hr⟩ : ∃ r, l[i]? = some r := ⟨_, List.getElem?_eq_getElem (by rw [← HR.out.ln]; exact hin)⟩
      obtain ⟨_, bb, oo, rfl, hrg⟩ := HR.out.a i r hr
      obtain ⟨n1, hn1⟩ : ∃ n1, n1 = i + 1 := ⟨_, rfl⟩
      have e1 : (i : Int) + 1 = (n1 : Int) := by omega
      have HIN : Hid (i < n) := hin
      have HM : Hid (rl (l.take n1) t = stepL t (x, y) r ∧ n1 = i + 1 ∧ n1 ≤ n) := ⟨by rw [hn1, rl_more l t i r hr, HX.out], hn1, by omega⟩
      have ck : w.cell? ⟨bb, oo + i * 7, none⟩ = some (.int .i64 r.k) := hrg 0 _ rfl
      have ct : w.cell? ⟨bb, oo + i * 7 + 2, none⟩ = some (.int .i64 r.tk) := hrg 2 _ rfl
      clear hr hrg hn1 HX
      obtain ⟨k, hk⟩ : ∃ z, z = r.k := ⟨_, rfl⟩
      obtain ⟨tk, htk⟩ : ∃ z, z = r.tk := ⟨_, rfl⟩
      have HKT : Hid (k = r.k ∧ tk = r.tk) := ⟨hk, htk⟩
      rw [← hk] at ck
      rw [← htk] at ct
      clear hk htk
      by_cases h1 : tk = t
      · subst h1
        have hkk : k = 0 ∨ k = 1 ∨ k = 2 ∨ (¬ k = 0 ∧ ¬ k = 1 ∧ ¬ k = 2) := by omega
        rcases hkk with rfl | rfl | rfl | ⟨g0, g1, g2⟩
        · go_wp2_with (first
            | (refine wpList_ixsU 73 91 (.tmp 21) (.tmp 22) rfl bb oo n cap i 7 rfl rfl HIN.out und_As info_Ac rfl ?_)
            | (refine wpList_ixsU 73 91 (.tmp 31) (.tmp 32) rfl bb oo n cap i 7 rfl rfl HIN.out und_As info_Ac rfl ?_))
          go_roundw
          case rel => exact ⟨n1, true, y, HM.out.2.2, rfl, rfl, rfl, HM.out.1.trans (st_0 HKT.out.2.symm HKT.out.1.symm), trivial⟩
          case measure => have := HM.out; simp [intOf]; omega
        · go_wp2_with (first
            | (refine wpList_ixsU 73 91 (.tmp 21) (.tmp 22) rfl bb oo n cap i 7 rfl rfl HIN.out und_As info_Ac rfl ?_)
            | (refine wpList_ixsU 73 91 (.tmp 31) (.tmp 32) rfl bb oo n cap i 7 rfl rfl HIN.out und_As info_Ac rfl ?_))
          go_roundw
          case rel => exact ⟨n1, x, true, HM.out.2.2, rfl, rfl, rfl, HM.out.1.trans (st_1 HKT.out.2.symm HKT.out.1.symm), trivial⟩
          case measure => have := HM.out; simp [intOf]; omega
        · go_wp2_with (first
            | (refine wpList_ixsU 73 91 (.tmp 21) (.tmp 22) rfl bb oo n cap i 7 rfl rfl HIN.out und_As info_Ac rfl ?_)
            | (refine wpList_ixsU 73 91 (.tmp 31) (.tmp 32) rfl bb oo n cap i 7 rfl rfl HIN.out und_As info_Ac rfl ?_))
          go_roundw
          case rel => exact ⟨n1, x, false, HM.out.2.2, rfl, rfl, rfl, HM.out.1.trans (st_2 HKT.out.2.symm HKT.out.1.symm), trivial⟩
          case measure => have := HM.out; simp [intOf]; omega
        · go_wp2_with (first
            | (refine wpList_ixsU 73 91 (.tmp 21) (.tmp 22) rfl bb oo n cap i 7 rfl rfl HIN.out und_As info_Ac rfl ?_)
            | (refine wpList_ixsU 73 91 (.tmp 31) (.tmp 32) rfl bb oo n cap i 7 rfl rfl HIN.out und_As info_Ac rfl ?_))
          go_roundw
          case rel => exact ⟨n1, x, y, HM.out.2.2, rfl, rfl, rfl, HM.out.1.trans (st_x (by rw [← HKT.out.1]; exact g0) (by rw [← HKT.out.1]; exact g1) (by rw [← HKT.out.1]; exact g2)), trivial⟩
          case measure => have := HM.out; simp [intOf]; omega
      · go_wp2_with (first
          | (refine wpList_ixsU 73 91 (.tmp 21) (.tmp 22) rfl bb oo n cap i 7 rfl rfl HIN.out und_As info_Ac rfl ?_)
          | (refine wpList_ixsU 73 91 (.tmp 31) (.tmp 32) rfl bb oo n cap i 7 rfl rfl HIN.out und_As info_Ac rfl ?_))
        go_roundw
        case rel => exact ⟨n1, x, y, HM.out.2.2, rfl, rfl, rfl, HM.out.1.trans (st_ne (by rw [← HKT.out.2]; exact h1)), trivial⟩
        case measure => have := HM.out; simp [intOf]; omega
    · go_wp2_with fail
      go_ret2
      exact ⟨by rw [← show l.take i = l by rw [List.take_of_length_le]; rw [← HR.out.ln]; omega, HX.out]; rfl, rfl⟩

def rp (l : List Acv) (i : Int) : Bool := l.any fun r => r.k == 4 && r.ix == i
theorem rp_more (l : List Acv) (t : Int) (i : Nat) (r : Acv) (h : l[i]? = some r) : rp (l.take (i + 1)) t = (rp (l.take i) t || (r.k == 4 && r.ix == t)) := by
  rw [take_more l i r h]
  unfold rp
  rw [List.any_append]
  simp
theorem rp_in {l : List Acv} {t : Int} {i : Nat} {r : Acv} (h : l[i]? = some r) (hk : r.k = 4) (ht : r.ix = t) : rp l t = true := by
  unfold rp
  rw [List.any_eq_true]
  exact ⟨r, List.mem_of_getElem? h, by simp [hk, ht]⟩

set_option maxRecDepth 100000 in
set_option maxHeartbeats 4000000 in
theorem rpaid_any {w : World} {q n cap : Nat} {A : Option Addr} {l : List Acv} (h : Rv w q A n cap l) (t : Int) : Calls Try.prog 41 #[.pointer (some ⟨q, 0, none⟩), .int .i64 t] w fun e w' => e = .returned (.bool (rp l t)) ∧ w' = w := by
  have HR : Hid (Rv w q A n cap l) := h
  have c0 := h.row.cell 0 _ rfl
  have hnb := h.nb
  obtain ⟨res, hres⟩ : ∃ b, b = rp l t := ⟨_, rfl⟩
  have HRES : Hid (res = rp l t) := hres
  rw [← hres]
  clear h hres
  go_enter Try.func41, Try.ntmps41
  go_wp2_with fail
  go_loopw [5] (fun v5 wr => ∃ (i : Nat), i ≤ n ∧ v5 = .int .i64 (i : Int) ∧ Hid (rp (l.take i) t = false) ∧ Hid (wr = w)) (fun v5 _ => n - (intOf v5).toNat)
  case atStart => exact ⟨0, Nat.zero_le _, rfl, rfl, rfl⟩
  case round =>
    obtain ⟨i, hi, rfl, HX, HW⟩ := hrel
    obtain rfl := HW.out.symm
    by_cases hin : i < n
    · obtain ⟨r, hr⟩ : ∃ r, l[i]? = some r := ⟨_, List.getElem?_eq_getElem (by rw [← HR.out.ln]; exact hin)⟩
      obtain ⟨_, bb, oo, rfl, hrg⟩ := HR.out.a i r hr
      obtain ⟨n1, hn1⟩ : ∃ n1, n1 = i + 1 := ⟨_, rfl⟩
      have e1 : (i : Int) + 1 = (n1 : Int) := by omega
      have HIN : Hid (i < n) := hin
      have HM : Hid (rp (l.take n1) t = (r.k == 4 && r.ix == t) ∧ n1 = i + 1 ∧ n1 ≤ n) := ⟨by rw [hn1, rp_more l t i r hr, HX.out]; exact Bool.false_or _, hn1, by omega⟩
      have HRR : Hid (l[i]? = some r) := hr
      have ck : w.cell? ⟨bb, oo + i * 7, none⟩ = some (.int .i64 r.k) := hrg 0 _ rfl
      have ct : w.cell? ⟨bb, oo + i * 7 + 1, none⟩ = some (.int .i64 r.ix) := hrg 1 _ rfl
      clear hr hrg hn1 HX
      obtain ⟨k, hk⟩ : ∃ z, z = r.k := ⟨_, rfl⟩
      obtain ⟨tk, htk⟩ : ∃ z, z = r.ix := ⟨_, rfl⟩
      have HKT : Hid (k = r.k ∧ tk = r.ix) := ⟨hk, htk⟩
      rw [← hk] at ck
      rw [← htk] at ct
      clear hk htk
      by_cases k4 : k = 4
      · subst k4
        by_cases h1 : tk = t
        · subst h1
          have HT : Hid (res = true) := HRES.out.trans (rp_in HRR.out HKT.out.1.symm HKT.out.2.symm)
          go_wp2_with (first
            | (refine wpList_ixsU 73 91 (.tmp 18) (.tmp 19) rfl bb oo n cap i 7 rfl rfl HIN.out und_As info_Ac rfl ?_)
            | (refine wpList_ixsU 73 91 (.tmp 28) (.tmp 29) rfl bb oo n cap i 7 rfl rfl HIN.out und_As info_Ac rfl ?_))
          go_ret
          exact ⟨by rw [HT.out]; rfl, rfl⟩
        · go_wp2_with (first
            | (refine wpList_ixsU 73 91 (.tmp 18) (.tmp 19) rfl bb oo n cap i 7 rfl rfl HIN.out und_As info_Ac rfl ?_)
            | (refine wpList_ixsU 73 91 (.tmp 28) (.tmp 29) rfl bb oo n cap i 7 rfl rfl HIN.out und_As info_Ac rfl ?_))
          go_roundw
          case rel => exact ⟨n1, HM.out.2.2, rfl, HM.out.1.trans (by rw [← HKT.out.1, ← HKT.out.2]; simp [h1]), trivial⟩
          case measure => have := HM.out; simp [intOf]; omega
      · go_wp2_with (first
          | (refine wpList_ixsU 73 91 (.tmp 18) (.tmp 19) rfl bb oo n cap i 7 rfl rfl HIN.out und_As info_Ac rfl ?_)
          | (refine wpList_ixsU 73 91 (.tmp 28) (.tmp 29) rfl bb oo n cap i 7 rfl rfl HIN.out und_As info_Ac rfl ?_))
        go_roundw
        case rel => exact ⟨n1, HM.out.2.2, rfl, HM.out.1.trans (by rw [← HKT.out.1]; simp [k4]), trivial⟩
        case measure => have := HM.out; simp [intOf]; omega
    · have HT : Hid (res = false) := by rw [HRES.out, ← show l.take i = l by rw [List.take_of_length_le]; rw [← HR.out.ln]; omega]; exact HX.out
      go_wp2_with fail
      go_ret
      exact ⟨by rw [HT.out]; rfl, rfl⟩


end Go.Proofs.Ytkbdnebmekhcdaa
