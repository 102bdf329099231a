/-
  a state over an empty table, as a function of its keys; ask, Get, Put.
-/
import Derived.Test.YtelioddogdcdoaaDoorXMem
import Derived.Laws.BytesArg
import Derived.Test.YtelioddogdcdoaaDoorSAsk

namespace Go.Proofs.YtelioddogdcdoaaDoor
open Go Go.RowKit
open Sha

/-- Bytes as a string. -/
def str (l : List (BitVec 8)) : ByteArray := strOfNums (l.map c)
theorem run_convert_str {P : Program} (w : World) (src e dst : TypeId) (hs : P.underlying src = some (.slice e)) (he : P.underlying e = some (.int .u8)) (hd : P.underlying dst = some .string) (b off cap n : Nat) (l : List (BitVec 8)) (hl : l.length = n)
    (hr : w.rangeAt b off (vB l)) : (convert src dst (.slice (some ⟨b, off, none⟩) n cap)).run P w = .ok (.string (str l)) w :=
  run_convert_bytes_arg w src e hs he b off n cap (l.map c) (by simpa using hl) (fun i hi => hr i _ (by rw [vB_get l i (by omega)]; simp [show i < l.length by omega])) dst hd
theorem run_convert_sl {P : Program} (w : World) (src e dst : TypeId) (hs : P.underlying src = some (.slice e)) (he : P.underlying e = some (.int .u8)) (hd : P.underlying dst = some .string) (v : Value) (d : List (BitVec 8)) (hv : SlAt w v d) :
    (convert src dst v).run P w = .ok (.string (str d)) w := by
  rcases hv with ⟨rfl, A, cap, rfl⟩ | ⟨ab, ao, cap, rfl, _, hr⟩
  · cases A with
    | none =>
      rw [run_convert_bytes_string w src dst e none 0 cap hs he hd]
      simp [Conv.bytesToString]
      rfl
    | some p =>
      have hl : (loadCells p 0).run P w = .ok (([] : List Int).map (Value.int .u8)).toArray w := run_loadCells_list (P := P) w p [] (fun j v hj => by simp at hj)
      rw [run_convert_bytes_string w src dst e _ 0 cap hs he hd, run_bytesToString w _ 0 cap [] hl]
      rfl
  · exact run_convert_str w src e dst hs he hd ab ao cap d.length d rfl hr

end Go.Proofs.YtelioddogdcdoaaDoor

namespace Go.Proofs.YtelioddogdcdoaaDoor
open Go Go.RowKit Go.Maps
open Sha

/-- All rows but a state's cells stay. -/
structure Kp (w w' : World) : Prop where
  row : ∀ b cs t, t ≠ tC → Row w b cs t → Row w' b cs t
  size : w.heap.size ≤ w'.heap.size
theorem Kp.refl (w : World) : Kp w w := ⟨fun _ _ _ _ h => h, Nat.le_refl _⟩
theorem Kp.trans {a b c : World} (h : Kp a b) (k : Kp b c) : Kp a c := ⟨fun x cs t n r => k.row x cs t n (h.row x cs t n r), Nat.le_trans h.size k.size⟩
theorem Kp.of_below {w w' : World} (h : Below w.heap.size w w') : Kp w w' := ⟨fun _ _ _ _ r => Row.below r h r.lt, h.size⟩
theorem Kp.bw {w w' : World} {v : Value} {d : List (BitVec 8)} (h : Kp w w') (k : Bw w v d) : Bw w' v d := by
  obtain ⟨h1, h2⟩ := k
  refine ⟨h1, ?_⟩
  rcases h2 with h2 | ⟨g, cap, cur, hv, hg, hh, r⟩
  · exact .inl h2
  · have q := h.row g cur.toList 5 (by decide) (by unfold Row; rw [hh])
    exact .inr ⟨g, cap, cur, hv, hg, by unfold Row at q; rw [q], r⟩
/-- A state over an empty table: at each key what f tells. -/
structure Ls (w0 w : World) (S T m k : Nat) (E : DataW Value) (f : ByteArray → List (BitVec 8)) : Prop where
  tab : Row w T [.map none, .pointer none] tT
  sv : Sv w S T m k E
  isM : IsMap E
  lo : w0.heap.size ≤ m
  bel : Below w0.heap.size w0 w
  at_ : ∀ s, isK s.size = true → (E.atKey (kl s) (.held (.pointer none)) = (.held (.pointer none)) ∧ f s = []) ∨ ∃ C v A c, E.atKey (kl s) (.held (.pointer none)) = .held (.pointer (some ⟨C, 0, none⟩)) ∧ Row w C [v, .slice A (f s).length c] tC ∧ Bw w (.slice A (f s).length c) (f s) ∧ w0.heap.size ≤ C
  inj : ∀ s s' C, isK s.size = true → isK s'.size = true → E.atKey (kl s) (.held (.pointer none)) = .held (.pointer (some ⟨C, 0, none⟩)) → E.atKey (kl s') (.held (.pointer none)) = .held (.pointer (some ⟨C, 0, none⟩)) → s = s'
  len : ∀ s, isK s.size = true → (f s).length ≤ 4096
theorem row_ne' {w : World} {b c : Nat} {cs ds : List Value} {t : TypeId} (h : Row w b cs t) (k : Row w c ds tC) (ht : t ≠ tC) : b ≠ c := fun e => by
  subst e
  have := h.symm.trans k
  simp only [Option.some.injEq, Obj.cells.injEq] at this
  exact ht this.2.1
theorem put_isMap {D : DataW Value} (h : IsMap D) (k : Lit) (d : DataW Value) : IsMap (D.put k d) := by
  obtain ⟨l, rfl⟩ := h
  exact ⟨_, rfl⟩
section
variable {w0 w w' : World} {S T m k : Nat} {E : DataW Value} {f : ByteArray → List (BitVec 8)}
/-- Behind what keeps all that was. -/
theorem Ls.be (h : Ls w0 w S T m k E f) (q : Below w.heap.size w w') : Ls w0 w' S T m k E f :=
  ⟨Row.below h.tab q h.tab.lt, h.sv.be q, h.isM, h.lo, h.bel.trans (q.mono h.bel.size), fun s hs => by
    rcases h.at_ s hs with e | ⟨C, v, A, c, e, r, b, l⟩
    · exact .inl e
    · exact .inr ⟨C, v, A, c, e, Row.below r q r.lt, Bw.be b q, l⟩, h.inj, h.len⟩
end
set_option maxRecDepth 100000 in
/-- ask, at a key that was asked. -/
theorem ask_old (S T m k C : Nat) (E : DataW Value) (s : ByteArray) (hs : isK s.size = true) (w : World) (h : Sv w S T m k E) (hE : E.atKey (kl s) (.held (.pointer none)) = .held (.pointer (some ⟨C, 0, none⟩))) :
    Calls Tryd.prog 53 #[.pointer (some ⟨S, 0, none⟩), .string s] w fun e w' => e = .returned (.tuple #[.pointer (some ⟨C, 0, none⟩), .int .i64 0]) ∧ w' = w := by
  have g0 := h.row.cell 0 _ rfl
  have g1 := h.row.cell 1 _ rfl
  have hl := Mp.look h.map 92 108 Tryd.underlying92 (.pointer none) (Tryd.zeroValue108 w) s (isK_le hs).2 _ hE
  clear h hs hE
  go_enter Tryd.func53, Tryd.ntmps53
  go_wp2
  go_ret2
  exact ⟨rfl, rfl⟩
/-- ask, whatever the key. -/
theorem ask_ls (w0 : World) (S T m k : Nat) (E : DataW Value) (f : ByteArray → List (BitVec 8)) (hk : k < 1000000) (s : ByteArray) (hs : isK s.size = true) (w : World) (h : Ls w0 w S T m k E f) :
    Calls Tryd.prog 53 #[.pointer (some ⟨S, 0, none⟩), .string s] w fun e w' => ∃ C v A c k' E', e = .returned (.tuple #[.pointer (some ⟨C, 0, none⟩), .int .i64 0]) ∧ Ls w0 w' S T m k' E' f ∧ k' ≤ k + 1 ∧ E'.atKey (kl s) (.held (.pointer none)) = .held (.pointer (some ⟨C, 0, none⟩)) ∧ Row w' C [v, .slice A (f s).length c] tC ∧ Bw w' (.slice A (f s).length c) (f s) ∧ w0.heap.size ≤ C ∧ Kp w w' := by
  rcases h.at_ s hs with ⟨e0, f0⟩ | ⟨C, v, A, c, e0, r, b, l⟩
  · have hF := find_none T s hs w h.tab
    refine (ask_new S T m k E hk s hs 0 [] rfl (by decide) w h.sv e0 (hF.mono (fun e w' q => ⟨none, 0, q.1, by rw [q.2]; exact Bw.nil _, by rw [q.2]; exact Below.refl _ _⟩))).mono ?_
    rintro e w' ⟨C, A, c, rfl, hC, hb, hS, hCl, hG⟩
    have hmT : T ≠ m := fun q => Mp.ne h.sv.map h.tab q.symm
    have hkp : Kp w w' := ⟨fun b cs t ht r => hG.row r (fun q => Mp.ne h.sv.map r q.symm), hG.size⟩
    have hne : ∀ s', s' ≠ s → (E.put (kl s) (.held (.pointer (some ⟨C, 0, none⟩)))).atKey (kl s') (.held (.pointer none)) = E.atKey (kl s') (.held (.pointer none)) := fun s' hq => atKey_put_other (fun q => hq (kl_inj q)) _ _
    have hsm : (E.put (kl s) (.held (.pointer (some ⟨C, 0, none⟩)))).atKey (kl s) (.held (.pointer none)) = .held (.pointer (some ⟨C, 0, none⟩)) := atKey_put_same h.isM (kl_key s) _ _
    have hlow : ∀ s' C', isK s'.size = true → E.atKey (kl s') (.held (.pointer none)) = .held (.pointer (some ⟨C', 0, none⟩)) → C' < w.heap.size := fun s' C' hs' q => by
      rcases h.at_ s' hs' with ⟨e1, _⟩ | ⟨C1, v1, A1, c1, e1, r1, _, _⟩
      · rw [e1] at q; simp at q
      · rw [e1] at q
        simp only [DataW.held.injEq, Value.pointer.injEq, Option.some.injEq, Addr.mk.injEq, and_true] at q
        rw [← q]
        exact r1.lt
    refine ⟨C, .slice A 0 c, A, c, k + 1, _, rfl, ⟨hkp.row _ _ _ (by decide) h.tab, hS, put_isMap h.isM _ _, h.lo, h.bel.trans (hG.to_below h.bel.size (fun g e => by rw [e]; exact h.lo)), fun s' hs' => ?_, fun s1 s2 C1 h1 h2 e1 e2 => ?_, h.len⟩, Nat.le_refl _, hsm, by rw [f0]; exact hC, by rw [f0]; exact hb, Nat.le_trans h.bel.size hCl, hkp⟩
    · by_cases hq : s' = s
      · subst hq
        exact .inr ⟨C, .slice A 0 c, A, c, hsm, by rw [f0]; exact hC, by rw [f0]; exact hb, Nat.le_trans h.bel.size hCl⟩
      · rw [hne s' hq]
        rcases h.at_ s' hs' with e1 | ⟨C1, v1, A1, c1, e1, r1, b1, l1⟩
        · exact .inl e1
        · exact .inr ⟨C1, v1, A1, c1, e1, hG.row r1 (fun q => Mp.ne h.sv.map r1 q.symm), Bw.gro b1 hG (fun g e q => Mp.bw h.sv.map b1 g e q), l1⟩
    · by_cases q1 : s1 = s
      · by_cases q2 : s2 = s
        · rw [q1, q2]
        · subst q1
          rw [hsm] at e1
          rw [hne s2 q2] at e2
          simp only [DataW.held.injEq, Value.pointer.injEq, Option.some.injEq, Addr.mk.injEq, and_true] at e1
          have := hlow s2 C1 h2 e2
          omega
      · by_cases q2 : s2 = s
        · subst q2
          rw [hsm] at e2
          rw [hne s1 q1] at e1
          simp only [DataW.held.injEq, Value.pointer.injEq, Option.some.injEq, Addr.mk.injEq, and_true] at e2
          have := hlow s1 C1 h1 e1
          omega
        · rw [hne s1 q1] at e1
          rw [hne s2 q2] at e2
          exact h.inj s1 s2 C1 h1 h2 e1 e2
  · refine (ask_old S T m k C E s hs w h.sv e0).mono ?_
    rintro e w' ⟨rfl, rfl⟩
    exact ⟨C, v, A, c, k, E, rfl, h, by omega, e0, r, b, l, Kp.refl _⟩
/-- A state whose table is empty: at most q keys were asked. -/
def Lg (w0 w : World) (S q : Nat) (f : ByteArray → List (BitVec 8)) : Prop := ∃ T m k E, k ≤ q ∧ Ls w0 w S T m k E f
theorem Lg.be {w0 w w' : World} {S q : Nat} {f : ByteArray → List (BitVec 8)} (h : Lg w0 w S q f) (b : Below w.heap.size w w') : Lg w0 w' S q f := by
  obtain ⟨T, m, k, E, hq, h⟩ := h
  exact ⟨T, m, k, E, hq, h.be b⟩
theorem Lg.bel {w0 w : World} {S q : Nat} {f : ByteArray → List (BitVec 8)} (h : Lg w0 w S q f) : Below w0.heap.size w0 w := by
  obtain ⟨T, m, k, E, hq, h⟩ := h
  exact h.bel
theorem Lg.len {w0 w : World} {S q : Nat} {f : ByteArray → List (BitVec 8)} (h : Lg w0 w S q f) (s : ByteArray) (hs : isK s.size = true) : (f s).length ≤ 4096 := by
  obtain ⟨T, m, k, E, hq, h⟩ := h
  exact h.len s hs
set_option maxRecDepth 100000 in
set_option maxHeartbeats 1000000 in
theorem get_lg (w0 : World) (S q : Nat) (f : ByteArray → List (BitVec 8)) (hq : q < 1000000) (s : ByteArray) (hs : isK s.size = true) (n : Nat) (d : List (BitVec 8)) (hd : f s = d) (hn : d.length = n) (w : World) (h : Lg w0 w S q f) :
    Calls Tryd.prog 39 #[.pointer (some ⟨S, 0, none⟩), .string s] w fun e w' => ∃ A c, e = .returned (.tuple #[.slice A n c, .int .i64 0]) ∧ Bw w' (.slice A n c) d ∧ (A = none → n = 0 ∧ c = 0) ∧ Lg w0 w' S (q + 1) f ∧ Kp w w' := by
  have hL := h.len s hs
  obtain ⟨T, m, k, E, hkq, hl⟩ := h
  have hA := ask_ls w0 S T m k E f (by omega) s hs w hl
  rw [hd, hn] at hA
  have HA : Hid _ := hA
  have HK0 := isKey_any s w
  rw [hs] at HK0
  have HK : Hid _ := HK0
  have HD : Hid (d.length = n) := hn
  have HN : Hid (n ≤ 140737488355328) := by show _ ≤ _; rw [← hn, ← hd]; omega
  have HKQ : Hid (k ≤ q) := hkq
  clear hl hA hL hd hn HK0 hkq hq hs
  go_enter Tryd.func39, Tryd.ntmps39
  go_wp2_with (go_at_call 52; refine Calls.mono HK.out ?_; rintro e W ⟨rfl, hqq⟩; obtain rfl := hqq.symm)
  refine Calls.mono HA.out ?_
  rintro e W ⟨C, v, A1, c1, k', E', rfl, hS, hk', hE', hC, hb, hCl, hG⟩
  have gC := hC.cell 1 _ rfl
  have HG : Hid (Kp w W) := hG
  have HS : Hid (Ls w0 W S T m k' E' f) := hS
  have HK' : Hid (k' ≤ k + 1) := hk'
  have HB : Hid _ := bclone_any A1 n c1 d HD.out HN.out W (Bw.sl hb) (sl_nil hb)
  clear hC hb hS hCl hG hE' hk' HA HK
  go_wp2_with fail
  refine Calls.mono HB.out ?_
  rintro e V ⟨A', c', rfl, hb, hni, hf, hB⟩
  have HB1 : Hid (Bw V (.slice A' n c') d) := hb
  have HBl : Hid (Below W.heap.size W V) := hB
  have HNI : Hid (A' = none → n = 0 ∧ c' = 0) := hni
  clear hb hf hB HB gC hni
  go_wp2_with fail
  go_ret2
  exact ⟨A', c', rfl, HB1.out, HNI.out, ⟨T, m, k', E', by have := HK'.out; have := HKQ.out; omega, HS.out.be HBl.out⟩, HG.out.trans (Kp.of_below HBl.out)⟩
/-- What stands at a key is another. -/
def upd (f : ByteArray → List (BitVec 8)) (s : ByteArray) (d : List (BitVec 8)) : ByteArray → List (BitVec 8) := fun x => if x = s then d else f x
theorem upd_same (f : ByteArray → List (BitVec 8)) (s : ByteArray) (d : List (BitVec 8)) : upd f s d s = d := if_pos rfl
theorem upd_other (f : ByteArray → List (BitVec 8)) (s : ByteArray) (d : List (BitVec 8)) (x : ByteArray) (h : x ≠ s) : upd f s d x = f x := if_neg h
theorem Ls.lay {w0 w : World} {S T m k : Nat} {E : DataW Value} {f : ByteArray → List (BitVec 8)} (h : Ls w0 w S T m k E f) (s : ByteArray) (hs : isK s.size = true) (C : Nat) (v u : Value) (A : Option Addr) (c : Nat) (d : List (BitVec 8)) (hd : d.length ≤ 4096) (hE : E.atKey (kl s) (.held (.pointer none)) = .held (.pointer (some ⟨C, 0, none⟩))) (hC : Row w C [v, u] tC) (hl : w0.heap.size ≤ C) (hb : Bw w (.slice A d.length c) d) :
    Ls w0 (w.setCell ⟨C, 1, none⟩ (.slice A d.length c)) S T m k E (upd f s d) ∧ Kp w (w.setCell ⟨C, 1, none⟩ (.slice A d.length c)) := by
  have hkp : Kp w (w.setCell ⟨C, 1, none⟩ (.slice A d.length c)) := ⟨fun b cs t ht r => Row.set_other r _ _ _ (row_ne' r hC ht), by simp⟩
  have hm : m ≠ C := Mp.ne h.sv.map hC
  refine ⟨⟨hkp.row _ _ _ (by decide) h.tab, ⟨hkp.row _ _ _ (by decide) h.sv.row, Mp.block h.sv.map (Below.heap_setCell _ _ _ _ hm)⟩, h.isM, h.lo, h.bel.setCell hl _, fun s' hs' => ?_, h.inj, fun s' hs' => ?_⟩, hkp⟩
  · by_cases hq : s' = s
    · subst hq
      rw [upd_same]
      exact .inr ⟨C, v, A, c, hE, hC.set 1 _, Bw.set_other hb (Bw.ne hb hC (by decide)), hl⟩
    · rw [upd_other _ _ _ _ hq]
      rcases h.at_ s' hs' with e1 | ⟨C1, v1, A1, c1, e1, r1, b1, l1⟩
      · exact .inl e1
      · have hne : C1 ≠ C := fun q => hq (h.inj s' s C hs' hs (by rw [← q]; exact e1) hE)
        exact .inr ⟨C1, v1, A1, c1, e1, Row.set_other r1 _ _ _ hne, Bw.set_other b1 (Bw.ne b1 hC (by decide)), l1⟩
  · by_cases hq : s' = s
    · subst hq
      rw [upd_same]
      exact hd
    · rw [upd_other _ _ _ _ hq]
      exact h.len s' hs'
set_option maxRecDepth 100000 in
set_option maxHeartbeats 1000000 in
theorem put_lg (w0 : World) (S q : Nat) (f : ByteArray → List (BitVec 8)) (hq : q < 1000000) (s : ByteArray) (hs : isK s.size = true) (A : Option Addr) (n cap : Nat) (d : List (BitVec 8)) (hn : d.length = n) (h4 : n ≤ 4096) (hnil : A = none → n = 0 ∧ cap = 0) (w : World) (h : Lg w0 w S q f) (hv : ∀ W, Kp w W → SlAt W (.slice A n cap) d) :
    Calls Tryd.prog 42 #[.pointer (some ⟨S, 0, none⟩), .string s, .slice A n cap] w fun e w' => e = .returned (.int .i64 0) ∧ Lg w0 w' S (q + 1) (upd f s d) ∧ Kp w w' := by
  obtain ⟨T, m, k, E, hkq, hl⟩ := h
  have HA : Hid _ := ask_ls w0 S T m k E f (by omega) s hs w hl
  have hc := check_any s A n cap w
  rw [may_ok hs (by omega)] at hc
  have HK : Hid _ := hc
  have HD : Hid (d.length = n) := hn
  have H4 : Hid (n ≤ 4096) := h4
  have HS0 : Hid (isK s.size = true) := hs
  have HKQ : Hid (k ≤ q) := hkq
  have HV : Hid (∀ W, Kp w W → SlAt W (.slice A n cap) d) := hv
  have HNIL : Hid (A = none → n = 0 ∧ cap = 0) := hnil
  clear hl hc hn h4 hkq hq hs hv hnil
  go_enter Tryd.func42, Tryd.ntmps42
  go_wp2_with (go_at_call 50; refine Calls.mono HK.out ?_; rintro e W ⟨rfl, hqq⟩; obtain rfl := hqq.symm)
  refine Calls.mono HA.out ?_
  rintro e W ⟨C, v, A1, c1, k', E', rfl, hS, hk', hE', hC, hb, hCl, hG⟩
  have gS := hS.sv.row.cell 3 _ rfl
  have HG : Hid (Kp w W) := hG
  have HS : Hid (Ls w0 W S T m k' E' f) := hS
  have HK' : Hid (k' ≤ k + 1) := hk'
  have HE' : Hid _ := hE'
  have HC : Hid (Row W C [v, .slice A1 (f s).length c1] tC) := hC
  have HCL : Hid (w0.heap.size ≤ C) := hCl
  have HB : Hid _ := bclone_any A n cap d HD.out (by have := H4.out; omega) W (HV.out W hG) HNIL.out
  clear hC hb hS hCl hG hE' hk' HA HK
  go_wp2_with fail
  refine Calls.mono HB.out ?_
  rintro e V ⟨A', c', rfl, hb, hni, hf, hB⟩
  have hC2 := Row.below HC.out hB HC.out.lt
  have g2 := hC2.cell 1 _ rfl
  have k2 := hC2.thaw 1
  have hb' := hb
  rw [← HD.out] at hb'
  have HQ : Hid _ := (HS.out.be hB).lay s HS0.out C v _ A' c' d (by rw [HD.out]; exact H4.out) HE'.out hC2 HCL.out hb'
  rw [HD.out] at HQ
  have HBl : Hid (Kp W V) := Kp.of_below hB
  clear hb hf hB HB hni hC2 hb' gS
  go_wp2_with fail
  go_ret
  exact ⟨rfl, ⟨T, m, k', E', by have := HK'.out; have := HKQ.out; omega, HQ.out.1⟩, (HG.out.trans HBl.out).trans HQ.out.2⟩

end Go.Proofs.YtelioddogdcdoaaDoor
