/-
  States over a table: Over, ask, Get, Put.
-/
import Derived.Test.YtelioddogdcdoaaDoorSPut
import Derived.Handy
namespace Go.Proofs.YtelioddogdcdoaaDoor
open Go Go.RowKit Go.Maps
open Sha

abbrev tS : TypeId := 95
abbrev tC : TypeId := 113
/-- A state over a table, without steps and marks. -/
structure Sv (w : World) (S T m k : Nat) (E : DataW Value) : Prop where
  row : Row w S [.iface 49 (.pointer (some ⟨T, 0, none⟩)), .map (some m), .slice none 0 0, .slice none 0 0] tS
  map : Mp w m k E
theorem Sv.be {w w' : World} {S T m k : Nat} {E : DataW Value} (h : Sv w S T m k E) (q : Below w.heap.size w w') : Sv w' S T m k E := ⟨Row.below h.row q h.row.lt, Mp.be h.map q⟩

set_option maxRecDepth 100000 in
theorem over_none (w : World) :
    Calls Tryd.prog 19 #[.nilIface] w fun e w' => e = .returned (.tuple #[.pointer none, .int .i64 1]) ∧ w' = w := by
  have hq := ifnil_eq
  go_enter Tryd.func19, Tryd.ntmps19
  go_wp2
  go_ret2
  exact ⟨rfl, rfl⟩
set_option maxRecDepth 100000 in
theorem over_some (T : Nat) (w : World) :
    Calls Tryd.prog 19 #[.iface 49 (.pointer (some ⟨T, 0, none⟩))] w fun e w' => e = .returned (.tuple #[.pointer (some ⟨w.heap.size + 1, 0, none⟩), .int .i64 0]) ∧ Sv w' (w.heap.size + 1) T w.heap.size 0 (.map []) ∧ Below w.heap.size w w' := by
  have hq := ifsome_eq 49 (.pointer (some ⟨T, 0, none⟩))
  have hmm := @run_makeMap Tryd.prog
  go_enter Tryd.func19, Tryd.ntmps19
  go_wp2
  go_ret2
  have b1 := (Below.refl w.heap.size w).alloc (Nat.le_refl _) (.map #[] 0)
  exact ⟨rfl, ⟨Row.new' (by simp) rfl, World.ownsMap.alloc (Mp.new w) _⟩, b1.alloc b1.size _⟩

set_option maxRecDepth 100000 in
set_option maxHeartbeats 2000000 in
/-- ask, at a key that was not asked yet. -/
theorem ask_new (S T m k : Nat) (E : DataW Value) (hk : k < 1000000) (s : ByteArray) (hs : isK s.size = true) (n : Nat) (d : List (BitVec 8)) (hd : d.length = n) (hn : n ≤ 4096) (w : World) (h : Sv w S T m k E) (hE : E.atKey (kl s) (.held (.pointer none)) = .held (.pointer none))
    (hF : Calls Tryd.prog 103 #[.pointer (some ⟨T, 0, none⟩), .string s] w fun e w' => ∃ A' c', e = .returned (.tuple #[.slice A' n c', .int .i64 0]) ∧ Bw w' (.slice A' n c') d ∧ Below w.heap.size w w') :
    Calls Tryd.prog 53 #[.pointer (some ⟨S, 0, none⟩), .string s] w fun e w' => ∃ C A' c', e = .returned (.tuple #[.pointer (some ⟨C, 0, none⟩), .int .i64 0]) ∧ Row w' C [.slice A' n c', .slice A' n c'] tC ∧ Bw w' (.slice A' n c') d ∧ Sv w' S T m (k + 1) (E.put (kl s) (.held (.pointer (some ⟨C, 0, none⟩)))) ∧ w.heap.size ≤ C ∧ Gro (fun g => g = m) w w' := by
  have g0 := h.row.cell 0 _ rfl
  have g1 := h.row.cell 1 _ rfl
  have hl := Mp.look h.map 92 108 Tryd.underlying92 (.pointer none) (Tryd.zeroValue108 w) s (isK_le hs).2 _ hE
  have HF : Hid _ := hF
  have HS : Hid (Sv w S T m k E) := h
  have hn4 : ¬ (4096 : Int) < (n : Int) := by omega
  have HSZ : Hid (s.size ≤ 128) := (isK_le hs).2
  have HD : Hid (d.length = n) := hd
  have HN : Hid (n ≤ 140737488355328) := by show _ ≤ _; omega
  have HSL : Hid (s.size ≤ 281474976710656) := by show _ ≤ _; have := (isK_le hs).2; omega
  have HKL : Hid (k < 140737488355328) := by show _ < _; omega
  have HE : Hid _ := hE
  clear h hF hs hd hn hE hk
  go_enter Tryd.func53, Tryd.ntmps53
  go_wp2_with fail
  refine Calls.mono HF.out ?_
  rintro e W ⟨A1, c1, rfl, hb1, hB1⟩
  have HB1 : Hid (Bw W (.slice A1 n c1) d) := hb1
  have HBl : Hid (Below w.heap.size w W) := hB1
  have hSW := HS.out.be hB1
  have HSW : Hid (Sv W S T m k E) := hSW
  have g1W := hSW.row.cell 1 _ rfl
  have hlW := Mp.look hSW.map 92 108 Tryd.underlying92 (.pointer none) (Tryd.zeroValue108 W) s HSZ.out _ HE.out
  have HC : Hid _ := bclone_any A1 n c1 d HD.out HN.out W (by have := Bw.sl hb1; exact this) (sl_nil hb1)
  clear hb1 hB1 hSW HF g0 g1 hl
  go_wp2_with fail
  refine Calls.mono HC.out ?_
  rintro e V ⟨A', c', rfl, hb2, hb3, hb4, hB2⟩
  have hSV := HSW.out.be hB2
  obtain ⟨V1, hV1⟩ : ∃ V1, V1 = V.alloc (Obj.cells #[.slice A' n c', .slice A' n c'] tC) := ⟨_, rfl⟩
  have hB3 : Below V.heap.size V V1 := by rw [hV1]; exact (Below.refl _ _).alloc (Nat.le_refl _) _
  have hSV1 := hSV.be hB3
  have gV1 := hSV1.row.cell 1 _ rfl
  have HSV : Hid (Sv V1.drew S T m k E) := Sv.mk hSV1.row hSV1.map
  have HC1 : Hid (Row V1.drew V.heap.size [.slice A' n c', .slice A' n c'] tC) := by rw [hV1]; exact Row.new' rfl rfl
  have HBV : Hid (Bw V1.drew (.slice A' n c') d) := Bw.be hb2 hB3.drew
  have HG : Hid (Below w.heap.size w V1.drew) := by
    have q := (HBl.out.trans (hB2.mono HBl.out.size)).trans (hB3.mono (Nat.le_trans HBl.out.size hB2.size))
    exact q.drew
  have HVS : Hid (w.heap.size ≤ V.heap.size) := Nat.le_trans HBl.out.size hB2.size
  clear hb2 hb3 hb4 hB2 hSV hB3 hSV1 HSW HC HB1 HBl g1W hlW HS
  go_upto_region 14 with fail
  rw [← hV1]
  clear hV1
  go_region_law (first
    | (refine stp_fn rfl 57 rfl #[.string s] (by go_simp) (Calls.mono (sclone_any s _ HSL.out) ?_); rintro e U ⟨rfl, hB⟩; refine ⟨_, rfl, ?_⟩; replace HSV : Hid (Sv U S T m k E) := HSV.out.be hB; replace HC1 : Hid (Row U V.heap.size [.slice A' n c', .slice A' n c'] tC) := Row.below HC1.out hB HC1.out.lt; replace HBV : Hid (Bw U (.slice A' n c') d) := Bw.be HBV.out hB; replace HG : Hid (Below w.heap.size w U) := HG.out.trans (hB.mono HG.out.size); have gU := HSV.out.row.cell 1 _ rfl; obtain ⟨U2, hU, hM2, hg2⟩ := Mp.put HSV.out.map HKL.out 92 108 Tryd.underlying92 s HSZ.out (.pointer (some ⟨V.heap.size, 0, none⟩)); have HM2 : Hid (Mp U2 m (k + 1) _) := hM2; have HG2 : Hid (U.grownBy U2 (some m)) := hg2; clear hM2 hg2 hB))
  all_goals
    go_wp2_with fail
    go_ret2
    have hmS : ∀ {g : Nat} {cs : List Value} {t : TypeId}, Row U g cs t → Row U2 g cs t := fun {g cs t} r => (HG2.out.block g r.lt (by have := Mp.ne HSV.out.map r; simp; omega)).trans r
    refine ⟨V.heap.size, A', c', rfl, hmS HC1.out, ?_, ⟨hmS HSV.out.row, HM2.out⟩, HVS.out, ?_⟩
    · exact Bw.block HBV.out fun g e => HG2.out.block g (Bw.lt HBV.out g e) (by have := Mp.bw HSV.out.map HBV.out g e; simp; omega)
    · exact (Gro.of_below HG.out).grown HG2.out (fun g e => .inl (by simp at e; omega))

set_option maxRecDepth 100000 in
set_option maxHeartbeats 1000000 in
theorem get_new (S T m k : Nat) (E : DataW Value) (hk : k < 1000000) (s : ByteArray) (hs : isK s.size = true) (n : Nat) (d : List (BitVec 8)) (hd : d.length = n) (hn : n ≤ 4096) (w : World) (h : Sv w S T m k E) (hE : E.atKey (kl s) (.held (.pointer none)) = .held (.pointer none))
    (hF : Calls Tryd.prog 103 #[.pointer (some ⟨T, 0, none⟩), .string s] w fun e w' => ∃ A' c', e = .returned (.tuple #[.slice A' n c', .int .i64 0]) ∧ Bw w' (.slice A' n c') d ∧ Below w.heap.size w w') :
    Calls Tryd.prog 39 #[.pointer (some ⟨S, 0, none⟩), .string s] w fun e w' => ∃ A' c', e = .returned (.tuple #[.slice A' n c', .int .i64 0]) ∧ Bw w' (.slice A' n c') d ∧ Gro (fun g => g = m) w w' := by
  have HA : Hid _ := ask_new S T m k E hk s hs n d hd hn w h hE hF
  have hk := isKey_any s w
  rw [hs] at hk
  have HK : Hid _ := hk
  have HD : Hid (d.length = n) := hd
  have HN : Hid (n ≤ 140737488355328) := by show _ ≤ _; omega
  clear h hE hF hs hd hn hk
  go_enter Tryd.func39, Tryd.ntmps39
  go_wp2_with (go_at_call 52; refine Calls.mono HK.out ?_; rintro e W ⟨rfl, hqq⟩; obtain rfl := hqq.symm)
  refine Calls.mono HA.out ?_
  rintro e W ⟨C, A1, c1, rfl, hC, hb, hS, hCl, hG⟩
  have gC := hC.cell 1 _ rfl
  have HG : Hid (Gro (fun g => g = m) w W) := hG
  have HB : Hid _ := bclone_any A1 n c1 d HD.out HN.out W (Bw.sl hb) (sl_nil hb)
  clear hC hb hS hCl hG HA HK
  go_wp2_with fail
  refine Calls.mono HB.out ?_
  rintro e V ⟨A', c', rfl, hb, _, hf, hB⟩
  have HB1 : Hid (Bw _ _ _) := hb
  have HBl : Hid (Below _ _ _) := hB
  clear hb hf hB HB gC
  go_wp2_with fail
  go_ret2
  exact ⟨A', c', rfl, HB1.out, HG.out.below HBl.out⟩

set_option maxRecDepth 100000 in
theorem sput_bad (S : Nat) (s : ByteArray) (A : Option Addr) (n cap : Nat) (hm : may s.size n ≠ 0) (w : World) :
    Calls Tryd.prog 42 #[.pointer (some ⟨S, 0, none⟩), .string s, .slice A n cap] w fun e w' => e = .returned (.int .i64 (may s.size n)) ∧ w' = w := by
  have HK : Hid _ := check_any s A n cap w
  generalize may s.size n = M at *
  go_enter Tryd.func42, Tryd.ntmps42
  go_wp2_with (go_at_call 50; refine Calls.mono HK.out ?_; rintro e W ⟨rfl, rfl⟩)
  go_ret
  exact ⟨rfl, rfl⟩

set_option maxRecDepth 100000 in
set_option maxHeartbeats 1000000 in
theorem sput_new (S T m k : Nat) (E : DataW Value) (hk : k < 1000000) (s : ByteArray) (A : Option Addr) (n cap : Nat) (d : List (BitVec 8)) (hd : d.length = n) (hm : may s.size n = 0) (hs : isK s.size = true) (hn : n ≤ 4096) (n0 : Nat) (d0 : List (BitVec 8)) (hd0 : d0.length = n0) (hn0 : n0 ≤ 4096) (w : World) (h : Sv w S T m k E) (hE : E.atKey (kl s) (.held (.pointer none)) = .held (.pointer none))
    (hF : Calls Tryd.prog 103 #[.pointer (some ⟨T, 0, none⟩), .string s] w fun e w' => ∃ A' c', e = .returned (.tuple #[.slice A' n0 c', .int .i64 0]) ∧ Bw w' (.slice A' n0 c') d0 ∧ Below w.heap.size w w') (hv : ∀ W, Gro (fun g => g = m) w W → SlAt W (.slice A n cap) d) (hnil : A = none → n = 0 ∧ cap = 0) :
    Calls Tryd.prog 42 #[.pointer (some ⟨S, 0, none⟩), .string s, .slice A n cap] w fun e w' => e = .returned (.int .i64 0) ∧ Gro (fun g => g = m) w w' := by
  have HA : Hid _ := ask_new S T m k E hk s hs n0 d0 hd0 hn0 w h hE hF
  have hc := check_any s A n cap w
  rw [hm] at hc
  have HK : Hid _ := hc
  have HD : Hid (d.length = n) := hd
  have HN : Hid (n ≤ 140737488355328) := by show _ ≤ _; omega
  have HV : Hid (∀ W, Gro (fun g => g = m) w W → SlAt W (.slice A n cap) d) := hv
  have HNIL : Hid (A = none → n = 0 ∧ cap = 0) := hnil
  clear h hE hF hs hd hn hk hc hm hd0 hn0 hv hnil
  go_enter Tryd.func42, Tryd.ntmps42
  go_wp2_with (go_at_call 50; refine Calls.mono HK.out ?_; rintro e W ⟨rfl, hqq⟩; obtain rfl := hqq.symm)
  refine Calls.mono HA.out ?_
  rintro e W ⟨C, A1, c1, rfl, hC, hb, hS, hCl, hG⟩
  have g3 := hS.row.cell 3 _ rfl
  have HC : Hid (Row W C _ tC) := hC
  have HG : Hid (Gro (fun g => g = m) w W) := hG
  have HLE : Hid (w.heap.size ≤ C) := hCl
  have HB : Hid _ := bclone_any A n cap d HD.out HN.out W (HV.out W hG) HNIL.out
  clear hC hb hS hCl hG HA HK
  go_wp2_with fail
  refine Calls.mono HB.out ?_
  rintro e V ⟨A', c', rfl, hb, _, hf, hB⟩
  have hC2 := Row.below HC.out hB HC.out.lt
  have gC := hC2.cell 1 _ rfl
  have fC := hC2.thaw 1
  have HBl : Hid (Below _ _ _) := hB
  clear hb hf hB HB g3 hC2
  go_wp2_with fail
  go_ret
  refine ⟨rfl, ?_⟩
  have q := HG.out.below HBl.out
  have q2 := (Gro.refl (fun g => g = C) V).set C 1 (.slice A' n c') rfl
  exact q.then q2 (fun g e => .inr (by have := HLE.out; omega))

end Go.Proofs.YtelioddogdcdoaaDoor
