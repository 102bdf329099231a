import Derived.Test.YtedeobikfddmgaaGreatMkAA
import Derived.Test.YtedeobikfddmgaaGreatMkEa
set_option maxRecDepth 100000
set_option maxHeartbeats 16000000
namespace Go.Proofs.YtedeobikfddmgaaGreat
open Go Go.RowKit
open Sha
open Wd
def adr (x:Nat):List Value:=(vU (bl x)).drop 12
abbrev z20:List Value:=List.replicate 20 (.int .u8 0)
theorem vU_one (l:List Nat):∀ v ∈ vU l,v.oneCell'=true:=fun v hv=>by
 obtain⟨x,_,rfl⟩:=List.mem_map.1 hv
 rfl
theorem zdL (x:Nat):(adr x).length=20:=by unfold adr vU;rw[List.length_drop,List.length_map,zgB]
theorem zmN (x:Nat):(adr x).toArray.all (·.oneCell')=true:=by
 rw[<-Array.all_toList]
 exact List.all_eq_true.2 (fun v hv=>vU_one _ v (List.mem_of_mem_drop hv))
theorem zoO:(Tryz.prog.info? 24).map (·.size)=some 20:=by kernel_rfl
section
variable {ops:Array Oper} {rest:List Oper} {op:Oper} {a:Act} {w:World} {Q:Exit->Act->World->Prop}
theorem s2a_w (hgd:op.guard=none) (t:TypeId) (n:Nat) (x:Operand) (ho:op.op=.sliceToArrayPointer t x) (b o m cap:Nat) (hx:a.eval x=.slice (some ⟨b,o,none⟩) m cap) (hm:n<=m) (hu:Tryz.prog.underlying t=some (.array n 5))
 (h:wpList Tryz.prog ops Q rest (a.put op.dst (.pointer (some ⟨b,o,none⟩))) w):wpList Tryz.prog ops Q (op :: rest) a w:=
 wpList_plain hgd fun K hK=>by
  have hr:(Instr.arrayAt t (.slice (some ⟨b,o,none⟩) m cap)).run Tryz.prog w=.ok (.pointer (some ⟨b,o,none⟩)) w:=by
   unfold Instr.arrayAt
   simp [run_underlying hu,show ¬ m<n by omega]
  unfold Oper.wp execOp
  simp only[ho,hx,Sem.run_bind,hr,Result.andThen_ok,Sem.run_pure,Oper.upon_value]
  exact hK _ _ h
theorem zeS (hgd:op.guard=none) (ho:op.op=.alloc 24) (h:∀ X,Row X w.heap.size z20 24->Below w.heap.size w X->X.heap.size=w.heap.size+1->wpList Tryz.prog ops Q rest (a.put op.dst (.pointer (some ⟨w.heap.size,0,none⟩))) X):wpList Tryz.prog ops Q (op :: rest) a w:=
 wpList_plain hgd fun _ hK=>by
  unfold Oper.wp execOp
  simp only[ho]
  go_simp
  exact hK _ _ (h _ (Row.new' (cs:=z20) rfl (by rfl)) ((Below.refl _ _).alloc (Nat.le_refl _) _) (by simp))
end
theorem adr_rng {W:World} {b x:Nat} {t:TypeId} (R:Row W b (vU (bl x)) t):W.rangeAt b 12 (adr x):=fun j v hj=>R.cell (12+j) v (by
 unfold adr at hj
 rwa [List.getElem?_drop] at hj)
theorem zgA (x:Nat) (w:World):Calls Tryz.prog 87 #[.agg (wq x).toArray] w fun e w'=>e=.returned (.agg (adr x).toArray)/\Below w.heap.size w w':=by
 obtain⟨L,hL⟩:∃ L,L=wq x:=⟨_,rfl⟩
 obtain⟨D,hD⟩:∃ D,D=adr x:=⟨_,rfl⟩
 have HI:Hid ((Tryz.prog.info? 27).map (·.size)=some L.length):=by show _=_;rw[hL];exact zaU _
 have HD:Hid ((Tryz.prog.info? 24).map (·.size)=some D.length/\D.length=z20.length/\D.toArray.all (·.oneCell')=true):=by rw[hD];exact⟨by rw[zdL];exact zoO,zdL _,zmN _⟩
 have HDD:Hid (D=adr x):=hD
 have HBY:Hid (∀ W,Calls Tryz.prog 100 #[.agg L.toArray] W fun e w'=>∃ N,W.heap.size<=N/\Row w' N (vU (bl x)) 5/\e=.returned (.slice (some ⟨N,0,none⟩) 32 32)/\Below W.heap.size W w'):=fun W=>by rw[hL];exact zrQ x W
 rw[<-hL,<-hD]
 clear hL hD
 go_enter Tryz.func87,Tryz.ntmps87
 go_wp2_with (first
  |(refine zaF 27 rfl (.tmp 0) rfl L rfl ?_;intro X1 (R1:Hid (Row X1 w.heap.size L 27)) (B1:Hid (Below w.heap.size w X1)) (S1:Hid (X1.heap.size=w.heap.size+1));simp only[Act.put,jA,jB,jC])
  |(refine zeS rfl rfl ?_;intro X2 q1 q2 q3;have R2:Hid (Row X2 X1.heap.size z20 24):=q1;have B2:Hid (Below X1.heap.size X1 X2):=q2;have S2:Hid (X2.heap.size=X1.heap.size+1):=q3;have R12:Hid (Row X2 w.heap.size L 27):=Row.below R1.out q2 R1.out.lt;clear q1 q2 q3;simp only[Act.put,jA,jB,jC])
  |(refine zaG rfl 27 (.tmp 1) rfl w.heap.size 0 rfl L _ R12.out.all Tryz.underlying27 rfl HI.out ?_;simp only[Act.put,jA,jB,jC])
  |(go_at_call 100;refine Calls.mono (HBY.out X2) ?_;rintro e X3 ⟨N,q1,q2,rfl,q3⟩;have R3:Hid (Row X3 N (vU (bl x)) 5):=q2;have B3:Hid (Below X2.heap.size X2 X3):=q3;have R23:Hid (Row X3 X1.heap.size z20 24):=Row.below R2.out q3 R2.out.lt;clear q1 q2 q3)
  |(refine zcG rfl 22 (.tmp 4) (.const (.int .i64 12)) rfl 5 N 0 32 32 12 12 rfl rfl rfl (by decide) (by decide) Tryz.underlying22 (by kernel_rfl) ?_;intro A hA;obtain rfl:=hA (by decide);simp only[Act.put,jA,jB,jC])
  |(refine s2a_w rfl 24 20 (.tmp 5) rfl N 12 20 20 rfl (by decide) Tryz.underlying24 ?_;simp only[Act.put,jA,jB,jC])
  |(refine zaG rfl 24 (.tmp 6) rfl N 12 rfl D _ (by rw[HDD.out];exact adr_rng R3.out) Tryz.underlying24 rfl HD.out.1 ?_;simp only[Act.put,jA,jB,jC])
  |(refine zaD rfl 24 (.tmp 2) (.tmp 7) rfl X1.heap.size D z20 24 rfl rfl R23.out HD.out.2.1 HD.out.1 HD.out.2.2 ?_;intro X4 (E4:Hid (X4=_)) (R4:Hid (Row X4 X1.heap.size D 24));simp only[Act.put]))
 exact bodyPost_ret (zaW Tryz.results87 _ _ X1.heap.size 24 D rfl R4.out Tryz.underlying24 HD.out.1) rfl ⟨rfl,by rw[E4.out];exact zaC ((B1.out.trans (B2.out.mono B1.out.size)).trans (B3.out.mono (Nat.le_trans B1.out.size B2.out.size))) B1.out.size _⟩
end Go.Proofs.YtedeobikfddmgaaGreat
