/-
  reading a letter of three bytes.
-/
import Derived.Test.YthjiekfjgfhchaaGreatLtG
import Derived.Test.YthjiekfjgfhchaaGreatXFaces
namespace Go.Proofs.YthjiekfjgfhchaaGreat
open Go Go.RowKit
open Sha

theorem stp_gn {P : Program} {ops : Array Oper} {o : Oper} {a : Act} {w : World} {K : Act → World → Prop} {Q : Exit → Act → World → Prop} {E : Prop} (hw : Region.wanted o (yielded ops a.tmps) = true) (f : FuncId) {xs : Array Operand} {ts : Array TypeId} (_ho : o.op = .call { callee := .value (.func f), args := xs, argTypes := ts }) (args : Array Value) (h : (execOp a.eval o).run P w = .ok (.enter f args) w)
    (hc : Calls P f args w fun e w' => ∃ v, e = .returned v ∧ K (a.put o.dst v) w') : if Region.wanted o (yielded ops a.tmps) = true then Oper.wp P o a w K Q else E := by
  rw [if_pos hw]
  unfold Oper.wp
  rw [h]
  exact hc.mono (fun e w' hk => by obtain ⟨v, he, hk⟩ := hk; subst he; exact hk)
theorem stp_load {P : Program} {ops : Array Oper} {o : Oper} {a : Act} {w : World} {K : Act → World → Prop} {Q : Exit → Act → World → Prop} {E : Prop} (hw : Region.wanted o (yielded ops a.tmps) = true) (ty : TypeId) (x : Operand) (ho : o.op = .load ty x)
    (b f : Nat) (hx : a.eval x = .pointer (some ⟨b, f, none⟩)) (cs : List Value) (d : TypeDesc) (hc : w.rangeAt b f cs) (hu : P.underlying ty = some d) (hd : d.isRow = true) (hi : (P.info? ty).map (·.size) = some cs.length)
    (h : K (a.put o.dst (.agg cs.toArray)) w) : if Region.wanted o (yielded ops a.tmps) = true then Oper.wp P o a w K Q else E := by
  rw [if_pos hw]
  exact wp_load_mid ty x ho b f hx cs d hc hu hd hi h
theorem results_rowS_tmp {P : Program} {fn : Func} {p q : Tmp} {ty : TypeId} {fs : Array Field} (h : fn.results = #[.cell p ty, .tmp q]) (tmps : Array Value) (w : World) (g : Nat) (t : TypeId) (cs : List Value) (v : Value)
    (hp : tmps.getD p undef = .pointer (some ⟨g, 0, none⟩)) (hv : tmps.getD q undef = v) (hg : Row w g cs t) (hu : P.underlying ty = some (.struct fs)) (hi : (P.info? ty).map (·.size) = some cs.length) :
    (results fn tmps).run P w = .ok (.tuple #[.agg cs.toArray, v]) w := by
  have hp' : tmps[p]?.getD undef = .pointer (some ⟨g, 0, none⟩) := by simpa using hp
  have hv' : tmps[q]?.getD undef = v := by simpa using hv
  have hr := run_loadVar_row (P := P) w g t ty cs.toArray (0, 0) (.struct fs) hg hu rfl (by simp [hi])
  simp [results, h, hp', hv', asAddr, hr]
/-- All but a reader's and a letter's blocks stay. -/
abbrev Gq (P b : Nat) : World → World → Prop := Gro (fun g => g = P ∨ g = b)
set_option maxRecDepth 100000 in
theorem take_8 (P : Nat) (A : Option Addr) (cap b : Nat) (w : World) (h : Rg w P A cap [8#8, 1#8, 3#8] 1) (hb : Row w b (lt 8 0 0) tLet) : Calls Tryz.prog 29 #[.pointer (some ⟨P, 0, none⟩), .pointer (some ⟨b, 0, none⟩)] w fun e w' => e = .returned (.tuple #[]) ∧ Rg w' P A cap [8#8, 1#8, 3#8] 3 ∧ Row w' b (lt 8 3 0) tLet ∧ Gq P b w w' := by
  have hne : b ≠ P := row_ne hb h.row (by decide)
  have HN : Hid _ := face_number P A cap [8#8, 1#8, 3#8] 1 w h
  have HL : Hid (Row w b (lt 8 0 0) tLet) := hb
  have HE : Hid (b ≠ P) := hne
  clear h hb hne
  go_enter Tryz.func29, Tryz.ntmps29
  go_wp2_with fail
  refine Calls.mono HN.out ?_
  rintro e W ⟨hok, hno, hG⟩
  clear hno
  obtain ⟨rfl, hr⟩ := hok (by decide +kernel)
  have e3 : ((nuW [8#8, 1#8, 3#8] 1 : Nat) : Int) = 3 := by decide +kernel
  rw [e3]
  have hL := hG.row HL.out HE.out
  have g1 := hL.cell 1 _ rfl
  have k1 := hL.thaw 1
  have HRG : Hid (Rg W P A cap [8#8, 1#8, 3#8] 3) := hr
  have HL2 : Hid (Row W b (lt 8 0 0) tLet) := hL
  have HG : Hid (Gro (fun g => g = P) w W) := hG
  clear hok hG hr hL e3 HN HL
  go_wp2_with fail
  go_end0
  refine ⟨rfl, HRG.out.setNew b 1 _ HL2.out (by decide) (by decide), ?_, ?_⟩
  · exact HL2.out.set 1 (.int .i64 3)
  · exact Gro.set (Gro.mono HG.out (fun g e => .inl e)) b 1 _ (.inr rfl)
set_option maxRecDepth 100000 in
set_option maxHeartbeats 1000000 in
theorem tread_8 (P : Nat) (A : Option Addr) (cap T U b : Nat) (w : World) (h : Rg w P A cap [8#8, 1#8, 3#8] 1) (hT : Row w T ltab 74) (hU : Row w U [.int .i64 0] 3) (hb : Row w b (lt 8 0 0) tLet) :
    Calls Tryz.prog 14 #[.slice (some ⟨T, 0, none⟩) 9 9, .pointer (some ⟨P, 0, none⟩), .pointer (some ⟨b, 0, none⟩), .slice (some ⟨U, 0, none⟩) 1 1] w fun e w' => e = .returned (.bool true) ∧ Row w' b (lt 8 3 0) tLet ∧ Gq P b w w' := by
  have HK : Hid _ := take_8 P A cap b w h hb
  have gu := hU.cell 0 _ rfl
  have gt := hT.cell 3 _ rfl
  clear h hT hU hb
  go_enter Tryz.func14, Tryz.ntmps14
  go_wp2_with fail
  refine wp_loop_rounds 2 ?_
  rw [rounds_succ]
  go_wp2_with fail
  refine Calls.mono HK.out ?_
  rintro e W ⟨rfl, hr, hb, hG⟩
  have HE : Hid _ := end_rest P A cap [8#8, 1#8, 3#8] 3 W hr
  have HQ : Hid (Row W b (lt 8 3 0) tLet ∧ Gq P b w W) := ⟨hb, hG⟩
  clear hr hb hG HK gu gt
  go_wp2_with fail
  rw [rounds_succ]
  go_wp2_with fail
  refine Calls.mono HE.out ?_
  rintro e W2 ⟨rfl, m, rfl⟩
  rw [if_neg (by decide)]
  go_wp2_with fail
  go_ret
  exact ⟨rfl, HQ.out.1, HQ.out.2.drewN m⟩

end Go.Proofs.YthjiekfjgfhchaaGreat
