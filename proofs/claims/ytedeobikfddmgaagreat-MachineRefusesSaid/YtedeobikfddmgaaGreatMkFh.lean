import Derived.Test.YtedeobikfddmgaaGreatMkAA
import Derived.Test.YtedeobikfddmgaaGreatMkEa
import Derived.Test.YtedeobikfddmgaaGreatMkEp
import Derived.Test.YtedeobikfddmgaaGreatMkEj
import Derived.Test.YtedeobikfddmgaaGreatMkL
import Derived.Test.YtedeobikfddmgaaGreatMkFe
import Derived.Test.YtedeobikfddmgaaGreatMkDc
set_option maxRecDepth 100000
set_option maxHeartbeats 16000000
namespace Go.Proofs.YtedeobikfddmgaaGreat
open Go Go.RowKit
open Sha
open Wd
theorem zvB (r T gs n:Nat) (pl:Value) (C:List Value) (h av stk:Value) (ss:List Nat) (l nx:Nat) (an:List Value) (ls:List Ins) (ags:List Nat) (x:Nat) (k0 w0 w:World) (H:Rn k0 w0 w r T gs n pl C h av stk ss l nx an ls ags) (hss:ss.length<=1000):Calls Tryz.prog 85 #[.pointer (some ⟨r,0,none⟩),.agg (wq x).toArray,.int .i64 0] w fun e w'=>e=.returned (.int .i64 0)/\∃ stk',Rn k0 w0 w' r T gs n pl C h av stk' (ss++[x]) l nx an ls ags:=by
 obtain⟨L,hL⟩:∃ L,L=wq x:=⟨_,rfl⟩
 have HI:Hid ((Tryz.prog.info? 27).map (·.size)=some L.length):=by show _=_;rw[hL];exact zaU _
 have HLV:Hid (∀ W,Rn k0 w0 W r T gs n pl C h av stk ss l nx an ls ags->Calls Tryz.prog 72 #[.pointer (some ⟨r,0,none⟩),.agg L.toArray] W fun e w'=>e=.returned (.int .i64 0)/\∃ stk',Rn k0 w0 w' r T gs n pl C h av stk' (ss++[x]) l nx an ls ags):=fun W hW=>by rw[hL];exact zcD r T gs n pl C h av stk ss l nx an ls ags x k0 w0 W hW hss
 have HH:Hid (Rn k0 w0 w r T gs n pl C h av stk ss l nx an ls ags):=H
 rw[<-hL]
 clear H hss hL
 go_enter Tryz.func85,Tryz.ntmps85
 go_wp2_with (first
  |(refine zaF 27 rfl (.tmp 1) rfl L rfl ?_;intro X q1 q2 q3;have R1:Hid (Row X w.heap.size L 27):=q1;have HR:Hid (Rn k0 w0 X r T gs n pl C h av stk ss l nx an ls ags):=HH.out.keep q2;clear q1 q2 q3;simp only[Act.put,jA,jB,jC])
  |(refine zaG rfl 27 (.tmp 4) rfl w.heap.size 0 rfl L _ R1.out.all Tryz.underlying27 rfl HI.out ?_;simp only[Act.put,jA,jB,jC])
  |(go_at_call 72;refine Calls.mono (HLV.out X HR.out) ?_;rintro e Y ⟨rfl,stk',q⟩;have HQ:Hid (Rn k0 w0 Y r T gs n pl C h av stk' (ss++[x]) l nx an ls ags):=q;clear q))
 go_ret
 exact⟨rfl,_,HQ.out⟩
theorem zvA (r T gs n:Nat) (pl:Value) (C:List Value) (h av stk:Value) (ss:List Nat) (l nx:Nat) (an:List Value) (ls:List Ins) (ags:List Nat) (x:Nat) (E:Int) (hE:(E != 0)=true) (k0 w0 w:World) (H:Rn k0 w0 w r T gs n pl C h av stk ss l nx an ls ags):Calls Tryz.prog 85 #[.pointer (some ⟨r,0,none⟩),.agg (wq x).toArray,.int .i64 E] w fun e w'=>e=.returned (.int .i64 E)/\Rn k0 w0 w' r T gs n pl C h av stk ss l nx an ls ags:=by
 obtain⟨L,hL⟩:∃ L,L=wq x:=⟨_,rfl⟩
 have HH:Hid (Rn k0 w0 w r T gs n pl C h av stk ss l nx an ls ags):=H
 rw[<-hL]
 clear H hL
 go_enter Tryz.func85,Tryz.ntmps85
 go_wp2_with (refine zaF 27 rfl (.tmp 1) rfl L rfl ?_;intro X q1 q2 q3;have HR:Hid (Rn k0 w0 X r T gs n pl C h av stk ss l nx an ls ags):=HH.out.keep q2;clear q1 q2 q3;simp only[Act.put,jA,jB,jC])
 go_ret
 exact⟨rfl,HR.out⟩
theorem cmp_ge (x:Nat):(0:Int)<=zfN x 64 ↔ ¬ x<64:=by
 unfold zfN
 by_cases h:x=64
 ·rw[if_pos h];omega
 ·rw[if_neg h]
  by_cases h2:x<64
  ·rw[if_pos h2];simp [h2]
  ·rw[if_neg h2];simp [h2]
theorem zpM (x:Nat) (hx:x<2 ^ 256) (h6:x<64) (w:World):Calls Tryz.prog 86 #[.agg (wq x).toArray] w fun e w'=>e=.returned (.tuple #[.int .i64 (x:Int),.bool true])/\Below w.heap.size w w':=by
 obtain⟨x0,hx0⟩:∃ a,a=((lim x 0:Nat):Int):=⟨_,rfl⟩
 obtain⟨x1,hx1⟩:∃ a,a=((lim x 1:Nat):Int):=⟨_,rfl⟩
 obtain⟨x2,hx2⟩:∃ a,a=((lim x 2:Nat):Int):=⟨_,rfl⟩
 obtain⟨x3,hx3⟩:∃ a,a=((lim x 3:Nat):Int):=⟨_,rfl⟩
 have hX:wq x=[.int .u64 x0,.int .u64 x1,.int .u64 x2,.int .u64 x3]:=by rw[zaQ,hx0,hx1,hx2,hx3]
 obtain⟨L6,hL6⟩:∃ L,L=wq 64:=⟨_,rfl⟩
 obtain⟨cm,hcmd⟩:∃ cm,cm=zfN x 64:=⟨_,rfl⟩
 have hcm:¬ (0:Int)<=cm:=by rw[hcmd,cmp_ge];omega
 have hl0:x0=(x:Int):=by rw[hx0];unfold lim;omega
 have hl1:(x:Int)<64:=by omega
 have HOF:Hid (∀ W,Calls Tryz.prog 98 #[.int .u64 64] W fun e w'=>e=.returned (.agg L6.toArray)/\Below W.heap.size W w'):=fun W=>by rw[hL6];exact of_w 64 (by decide) W
 have HCM:Hid (∀ W,Calls Tryz.prog 80 #[.agg #[.int .u64 x0,.int .u64 x1,.int .u64 x2,.int .u64 x3],.agg L6.toArray] W fun e w'=>e=.returned (.int .i64 cm)/\Below W.heap.size W w'):=fun W=>by
  have q:=zjR x 64 hx (by decide) W
  rw[hL6,hcmd]
  rw[show vQ (dgs x 4)=[.int .u64 x0,.int .u64 x1,.int .u64 x2,.int .u64 x3] from hX] at q
  exact q
 rw[hX]
 clear hx hX hcmd hL6 hx0 hx1 hx2 hx3 h6
 go_enter Tryz.func86,Tryz.ntmps86
 go_upto_region 1 with (refine zaF 27 rfl (.tmp 0) rfl [.int .u64 x0,.int .u64 x1,.int .u64 x2,.int .u64 x3] rfl ?_;intro X1 (R1:Hid (Row X1 w.heap.size [.int .u64 x0,.int .u64 x1,.int .u64 x2,.int .u64 x3] 27)) (B1:Hid (Below w.heap.size w X1)) q3;clear q3;simp only[Act.put,jA,jB,jC])
 obtain⟨b1,hb1⟩:∃ b,b=w.heap.size:=⟨_,rfl⟩
 rw[<-hb1] at R1
 rw[<-hb1]
 have HB1:Hid (b1=w.heap.size):=hb1
 clear hb1
 have a0:=R1.out.cell 0 _ rfl
 have a1:=R1.out.cell 1 _ rfl
 have a2:=R1.out.cell 2 _ rfl
 have a3:=R1.out.cell 3 _ rfl
 go_region_law (first
  |(refine zdT rfl 98 rfl #[.int .u64 64] (by go_simp) (Calls.mono (HOF.out _) ?_);rintro e X2 ⟨rfl,q⟩;refine⟨_,rfl,?_⟩;have B2:Hid (Below X1.heap.size X1 X2):=(zbE (Below.refl _ _) 1).trans q;have r2:Row X2 b1 [.int .u64 x0,.int .u64 x1,.int .u64 x2,.int .u64 x3] 27:=Row.below R1.out B2.out R1.out.lt;have c0:=r2.cell 0 _ rfl;have c1:=r2.cell 1 _ rfl;have c2:=r2.cell 2 _ rfl;have c3:=r2.cell 3 _ rfl;have R2:Hid (Row X2 b1 [.int .u64 x0,.int .u64 x1,.int .u64 x2,.int .u64 x3] 27):=r2;clear q r2)
  |(refine zdT rfl 80 rfl #[.agg #[.int .u64 x0,.int .u64 x1,.int .u64 x2,.int .u64 x3],.agg L6.toArray] (by go_simp) (Calls.mono (HCM.out X2) ?_);rintro e X3 ⟨rfl,q⟩;refine⟨_,rfl,?_⟩;have B3:Hid (Below X2.heap.size X2 X3):=q;clear q))
 all_goals
  have R3:Row X3 b1 [.int .u64 x0,.int .u64 x1,.int .u64 x2,.int .u64 x3] 27:=Row.below R2.out B3.out R2.out.lt
  have d0:=R3.cell 0 _ rfl
  have BB:Hid (Below w.heap.size w X3):=(B1.out.trans (B2.out.mono B1.out.size)).trans (B3.out.mono (Nat.le_trans B1.out.size B2.out.size))
  clear a0 a1 a2 a3 c0 c1 c2 c3 R3
  go_wp2
  go_ret2
  exact⟨rfl,BB.out⟩
theorem zpN (x:Nat) (hx:x<2 ^ 256) (h6:¬ x<64) (w:World):Calls Tryz.prog 86 #[.agg (wq x).toArray] w fun e w'=>e=.returned (.tuple #[.int .i64 0,.bool false])/\Below w.heap.size w w':=by
 obtain⟨x0,hx0⟩:∃ a,a=((lim x 0:Nat):Int):=⟨_,rfl⟩
 obtain⟨x1,hx1⟩:∃ a,a=((lim x 1:Nat):Int):=⟨_,rfl⟩
 obtain⟨x2,hx2⟩:∃ a,a=((lim x 2:Nat):Int):=⟨_,rfl⟩
 obtain⟨x3,hx3⟩:∃ a,a=((lim x 3:Nat):Int):=⟨_,rfl⟩
 have hX:wq x=[.int .u64 x0,.int .u64 x1,.int .u64 x2,.int .u64 x3]:=by rw[zaQ,hx0,hx1,hx2,hx3]
 obtain⟨L6,hL6⟩:∃ L,L=wq 64:=⟨_,rfl⟩
 obtain⟨cm,hcmd⟩:∃ cm,cm=zfN x 64:=⟨_,rfl⟩
 have hcm:(0:Int)<=cm:=by rw[hcmd,cmp_ge];exact h6
 have HOF:Hid (∀ W,Calls Tryz.prog 98 #[.int .u64 64] W fun e w'=>e=.returned (.agg L6.toArray)/\Below W.heap.size W w'):=fun W=>by rw[hL6];exact of_w 64 (by decide) W
 have HCM:Hid (∀ W,Calls Tryz.prog 80 #[.agg #[.int .u64 x0,.int .u64 x1,.int .u64 x2,.int .u64 x3],.agg L6.toArray] W fun e w'=>e=.returned (.int .i64 cm)/\Below W.heap.size W w'):=fun W=>by
  have q:=zjR x 64 hx (by decide) W
  rw[hL6,hcmd]
  rw[show vQ (dgs x 4)=[.int .u64 x0,.int .u64 x1,.int .u64 x2,.int .u64 x3] from hX] at q
  exact q
 rw[hX]
 clear hx hX hcmd hL6 hx0 hx1 hx2 hx3 h6
 go_enter Tryz.func86,Tryz.ntmps86
 go_upto_region 1 with (refine zaF 27 rfl (.tmp 0) rfl [.int .u64 x0,.int .u64 x1,.int .u64 x2,.int .u64 x3] rfl ?_;intro X1 (R1:Hid (Row X1 w.heap.size [.int .u64 x0,.int .u64 x1,.int .u64 x2,.int .u64 x3] 27)) (B1:Hid (Below w.heap.size w X1)) q3;clear q3;simp only[Act.put,jA,jB,jC])
 obtain⟨b1,hb1⟩:∃ b,b=w.heap.size:=⟨_,rfl⟩
 rw[<-hb1] at R1
 rw[<-hb1]
 have HB1:Hid (b1=w.heap.size):=hb1
 clear hb1
 have a0:=R1.out.cell 0 _ rfl
 have a1:=R1.out.cell 1 _ rfl
 have a2:=R1.out.cell 2 _ rfl
 have a3:=R1.out.cell 3 _ rfl
 go_region_law (first
  |(refine zdT rfl 98 rfl #[.int .u64 64] (by go_simp) (Calls.mono (HOF.out _) ?_);rintro e X2 ⟨rfl,q⟩;refine⟨_,rfl,?_⟩;have B2:Hid (Below X1.heap.size X1 X2):=(zbE (Below.refl _ _) 1).trans q;have r2:Row X2 b1 [.int .u64 x0,.int .u64 x1,.int .u64 x2,.int .u64 x3] 27:=Row.below R1.out B2.out R1.out.lt;have c0:=r2.cell 0 _ rfl;have c1:=r2.cell 1 _ rfl;have c2:=r2.cell 2 _ rfl;have c3:=r2.cell 3 _ rfl;have R2:Hid (Row X2 b1 [.int .u64 x0,.int .u64 x1,.int .u64 x2,.int .u64 x3] 27):=r2;clear q r2)
  |(refine zdT rfl 80 rfl #[.agg #[.int .u64 x0,.int .u64 x1,.int .u64 x2,.int .u64 x3],.agg L6.toArray] (by go_simp) (Calls.mono (HCM.out X2) ?_);rintro e X3 ⟨rfl,q⟩;refine⟨_,rfl,?_⟩;have B3:Hid (Below X2.heap.size X2 X3):=q;clear q))
 all_goals
  have R3:Row X3 b1 [.int .u64 x0,.int .u64 x1,.int .u64 x2,.int .u64 x3] 27:=Row.below R2.out B3.out R2.out.lt
  have d0:=R3.cell 0 _ rfl
  have BB:Hid (Below w.heap.size w X3):=(B1.out.trans (B2.out.mono B1.out.size)).trans (B3.out.mono (Nat.le_trans B1.out.size B2.out.size))
  clear a0 a1 a2 a3 c0 c1 c2 c3 R3
  go_wp2
  go_ret2
  exact⟨rfl,BB.out⟩
theorem zpJ {P:Program} {ops:Array Oper} {o:Oper} {a:Act} {w:World} {K:Act->World->Prop} {Q:Exit->Act->World->Prop} {E:Prop} (hg:o.guard=none) (f:FuncId) {x:Operand} {nm:String} {xs:Array Operand} {ts:Array TypeId} (_ho:o.op=.call { callee:=.invoke x nm,args:=xs,argTypes:=ts }) (args:Array Value) (h:(execOp a.eval o).run P w=.ok (.enter f args) w)
 (hc:Calls P f args w fun e w'=>∃ v,e=.returned v/\K (a.put o.dst v) w'):if Region.wanted o (yielded ops a.tmps)=true then Oper.wp P o a w K Q else E:=zlY hg f args h hc
theorem do_load (r T gs n:Nat) (pl:Value) (C:List Value) (hb:Nat) (av stk:Value) (ss:List Nat) (l nx:Nat) (an:List Value) (ls:List Ins) (ags:List Nat) (I:List Value) (x:Nat) (P:Nat->Int->World->World->Prop) (k0 w0 w:World) (H:Rn k0 w0 w r T gs n pl C (.iface 46 (.pointer (some ⟨hb,0,none⟩))) av stk (ss++[x]) l nx an ls ags) (hss:ss.length<=900)
 (hh:∀ stk' W,Rn k0 w0 W r T gs n pl C (.iface 46 (.pointer (some ⟨hb,0,none⟩))) av stk' (ss) l nx an ls ags->Calls Tryz.prog 129 #[.pointer (some ⟨hb,0,none⟩),.agg (wq x).toArray] W fun e w'=>∃ v E,e=.returned (.tuple #[.agg (wq v).toArray,.int .i64 E])/\∃ w1,P v E w' w1/\Rn w' w1 w' r T gs n pl C (.iface 46 (.pointer (some ⟨hb,0,none⟩))) av stk' (ss) l nx an ls ags):Calls Tryz.prog 64 #[.pointer (some ⟨r,0,none⟩),.agg I.toArray] w fun e w'=>∃ v E X w1,P v E X w1/\((E=0/\e=.returned (.int .i64 0)/\∃ stk',Rn X w1 w' r T gs n pl C (.iface 46 (.pointer (some ⟨hb,0,none⟩))) av stk' (ss++[v]) l nx an ls ags)\/(E≠0/\e=.returned (.int .i64 E)/\∃ stk',Rn X w1 w' r T gs n pl C (.iface 46 (.pointer (some ⟨hb,0,none⟩))) av stk' (ss) l nx an ls ags)):=by
 obtain⟨L,hL⟩:∃ L,L=wq x:=⟨_,rfl⟩
 have HTK:Hid (∀ W,Rn k0 w0 W r T gs n pl C (.iface 46 (.pointer (some ⟨hb,0,none⟩))) av stk (ss++[x]) l nx an ls ags->Calls Tryz.prog 71 #[.pointer (some ⟨r,0,none⟩)] W fun e w'=>e=.returned (.agg L.toArray)/\∃ stk',Rn k0 w0 w' r T gs n pl C (.iface 46 (.pointer (some ⟨hb,0,none⟩))) av stk' (ss) l nx an ls ags):=fun W hW=>by
  rw[hL]
  refine Calls.mono (zdB r T gs n pl C _ av stk ss l nx an ls ags x k0 w0 W hW (by omega)) ?_
  rintro e w' ⟨q1,_,_,stk2,_,q⟩
  exact⟨q1,stk2,q⟩
 have HHO:Hid (∀ stk' W,Rn k0 w0 W r T gs n pl C (.iface 46 (.pointer (some ⟨hb,0,none⟩))) av stk' (ss) l nx an ls ags->Calls Tryz.prog 129 #[.pointer (some ⟨hb,0,none⟩),.agg L.toArray] W fun e w'=>∃ v E LV,LV=wq v/\e=.returned (.tuple #[.agg LV.toArray,.int .i64 E])/\∃ w1,P v E w' w1/\Rn w' w1 w' r T gs n pl C (.iface 46 (.pointer (some ⟨hb,0,none⟩))) av stk' (ss) l nx an ls ags):=fun stk' W hW=>by
  rw[hL]
  refine Calls.mono (hh stk' W hW) ?_
  rintro e w' ⟨v,E,rfl,q⟩
  exact⟨v,E,_,rfl,rfl,q⟩
 have HLT:Hid (∀ v E LV X w1 stk' W,LV=wq v->Rn X w1 W r T gs n pl C (.iface 46 (.pointer (some ⟨hb,0,none⟩))) av stk' (ss) l nx an ls ags->Calls Tryz.prog 85 #[.pointer (some ⟨r,0,none⟩),.agg LV.toArray,.int .i64 E] W fun e w'=>∃ u,e=.returned (.int .i64 u)/\((E=0/\u=0/\∃ stk',Rn X w1 w' r T gs n pl C (.iface 46 (.pointer (some ⟨hb,0,none⟩))) av stk' (ss++[v]) l nx an ls ags)\/(E≠0/\u=E/\∃ stk',Rn X w1 w' r T gs n pl C (.iface 46 (.pointer (some ⟨hb,0,none⟩))) av stk' (ss) l nx an ls ags))):=fun v E LV X w1 stk' W hLV hW=>by
  rw[hLV]
  by_cases hE:E=0
  ·subst hE
   refine Calls.mono (zvB r T gs n pl C _ av stk' ss l nx an ls ags v X w1 W hW (by omega)) ?_
   rintro e w' ⟨rfl,q⟩
   exact⟨0,rfl,.inl ⟨rfl,rfl,q⟩⟩
  ·refine Calls.mono (zvA r T gs n pl C _ av stk' ss l nx an ls ags v E (by simpa using hE) X w1 W hW) ?_
   rintro e w' ⟨rfl,q⟩
   exact⟨E,rfl,.inr ⟨hE,rfl,_,q⟩⟩
 have HH:Hid (Rn k0 w0 w r T gs n pl C (.iface 46 (.pointer (some ⟨hb,0,none⟩))) av stk (ss++[x]) l nx an ls ags):=H
 clear H hss hL hh
 go_enter Tryz.func64,Tryz.ntmps64
 go_upto_region 1 with (refine zaF 97 rfl (.tmp 1) rfl I rfl ?_;intro X1 q1 q2 q3;have HR:Hid (Rn k0 w0 X1 r T gs n pl C (.iface 46 (.pointer (some ⟨hb,0,none⟩))) av stk (ss++[x]) l nx an ls ags):=HH.out.keep q2;clear q1 q2 q3;simp only[Act.put,jA,jB,jC])
 have c51:X1.cell? ⟨r,51,none⟩=some (.iface 46 (.pointer (some ⟨hb,0,none⟩))):=HR.out.row.cell 51 _ (zbX HR.out.clen 0)
 go_region_law (first
  |(refine zdT rfl 71 rfl #[.pointer (some ⟨r,0,none⟩)] (by go_simp) (Calls.mono (HTK.out _ (HR.out.drewN 1)) ?_);rintro e X2 ⟨rfl,stk2,q⟩;refine⟨_,rfl,?_⟩;have HR2:Hid (Rn k0 w0 X2 r T gs n pl C (.iface 46 (.pointer (some ⟨hb,0,none⟩))) av stk2 (ss) l nx an ls ags):=q;have d51:X2.cell? ⟨r,51,none⟩=some (.iface 46 (.pointer (some ⟨hb,0,none⟩))):=q.row.cell 51 _ (zbX q.clen 0);clear q)
  |(refine zpJ rfl 129 rfl #[.pointer (some ⟨hb,0,none⟩),.agg L.toArray] (by go_simp;kernel_rfl) (Calls.mono (HHO.out stk2 X2 HR2.out) ?_);rintro e X3 ⟨v,E,LV,qL,rfl,w1,qP,q⟩;refine⟨_,rfl,?_⟩;have HLV:Hid (LV=wq v):=qL;have HP:Hid (P v E X3 w1):=qP;have HR3:Hid (Rn X3 w1 X3 r T gs n pl C (.iface 46 (.pointer (some ⟨hb,0,none⟩))) av stk2 (ss) l nx an ls ags):=q;clear q qP qL)
  |(refine zdT rfl 85 rfl #[.pointer (some ⟨r,0,none⟩),.agg LV.toArray,.int .i64 E] (by go_simp) (Calls.mono (HLT.out v E LV X3 w1 stk2 X3 HLV.out HR3.out) ?_);rintro e X4 ⟨u,rfl,q⟩;refine⟨_,rfl,?_⟩;have HQ:Hid (((E=0/\u=0/\∃ stk',Rn X3 w1 X4 r T gs n pl C (.iface 46 (.pointer (some ⟨hb,0,none⟩))) av stk' (ss++[v]) l nx an ls ags)\/(E≠0/\u=E/\∃ stk',Rn X3 w1 X4 r T gs n pl C (.iface 46 (.pointer (some ⟨hb,0,none⟩))) av stk' (ss) l nx an ls ags))):=q;clear q))
 all_goals
  clear c51 d51
  go_wp2
  go_ret
  refine⟨v,E,X3,w1,HP.out,?_⟩
  rcases HQ.out with ⟨h1,rfl,q⟩|⟨h1,rfl,q⟩
  ·exact .inl ⟨h1,rfl,q⟩
  ·exact .inr ⟨h1,rfl,q⟩
theorem zqJ (r T gs n:Nat) (pl:Value) (C:List Value) (hb:Nat) (av stk:Value) (ss:List Nat) (l nx:Nat) (an:List Value) (ls:List Ins) (ags:List Nat) (I:List Value) (x y z:Nat) (hx:x<2 ^ 256) (h6:¬ x<64) (k0 w0 w:World) (H:Rn k0 w0 w r T gs n pl C (.iface 46 (.pointer (some ⟨hb,0,none⟩))) av stk (ss++[x]++[y]++[z]) l nx an ls ags) (hss:ss.length<=900):Calls Tryz.prog 67 #[.pointer (some ⟨r,0,none⟩),.agg I.toArray] w fun e w'=>e=.returned (.int .i64 104)/\∃ stk',Rn k0 w0 w' r T gs n pl C (.iface 46 (.pointer (some ⟨hb,0,none⟩))) av stk' (ss) l nx an ls ags:=by
 obtain⟨LX,hLX⟩:∃ L,L=wq x:=⟨_,rfl⟩
 obtain⟨y0,hy0⟩:∃ a,a=((lim y 0:Nat):Int):=⟨_,rfl⟩
 obtain⟨y1,hy1⟩:∃ a,a=((lim y 1:Nat):Int):=⟨_,rfl⟩
 obtain⟨y2,hy2⟩:∃ a,a=((lim y 2:Nat):Int):=⟨_,rfl⟩
 obtain⟨y3,hy3⟩:∃ a,a=((lim y 3:Nat):Int):=⟨_,rfl⟩
 obtain⟨z0,hz0⟩:∃ a,a=((lim z 0:Nat):Int):=⟨_,rfl⟩
 obtain⟨z1,hz1⟩:∃ a,a=((lim z 1:Nat):Int):=⟨_,rfl⟩
 obtain⟨z2,hz2⟩:∃ a,a=((lim z 2:Nat):Int):=⟨_,rfl⟩
 obtain⟨z3,hz3⟩:∃ a,a=((lim z 3:Nat):Int):=⟨_,rfl⟩
 have hY:wq y=[.int .u64 y0,.int .u64 y1,.int .u64 y2,.int .u64 y3]:=by rw[zaQ,hy0,hy1,hy2,hy3]
 have hZ:wq z=[.int .u64 z0,.int .u64 z1,.int .u64 z2,.int .u64 z3]:=by rw[zaQ,hz0,hz1,hz2,hz3]
 have HTK:Hid (∀ W,Rn k0 w0 W r T gs n pl C (.iface 46 (.pointer (some ⟨hb,0,none⟩))) av stk (ss++[x]++[y]++[z]) l nx an ls ags->Calls Tryz.prog 71 #[.pointer (some ⟨r,0,none⟩)] W fun e w'=>e=.returned (.agg #[.int .u64 z0,.int .u64 z1,.int .u64 z2,.int .u64 z3])/\∃ stk',Rn k0 w0 w' r T gs n pl C (.iface 46 (.pointer (some ⟨hb,0,none⟩))) av stk' (ss++[x]++[y]) l nx an ls ags):=fun W hW=>by
  have q0:=zdB r T gs n pl C _ av stk (ss++[x]++[y]) l nx an ls ags z k0 w0 W hW (by simp only[List.length_append,List.length_singleton];omega)
  rw[hZ] at q0
  refine Calls.mono q0 ?_
  rintro e w' ⟨q1,_,_,stk2,_,q⟩
  exact⟨q1,stk2,q⟩
 have HTT:Hid (∀ stk' W,Rn k0 w0 W r T gs n pl C (.iface 46 (.pointer (some ⟨hb,0,none⟩))) av stk' (ss++[x]++[y]) l nx an ls ags->Calls Tryz.prog 75 #[.pointer (some ⟨r,0,none⟩)] W fun e w'=>e=.returned (.tuple #[.agg LX.toArray,.agg #[.int .u64 y0,.int .u64 y1,.int .u64 y2,.int .u64 y3]])/\(∀ {b:Nat} {cs:List Value} {t:TypeId},Row W b cs t->b≠r->Row w' b cs t)/\∃ stk2,Rn k0 w0 w' r T gs n pl C (.iface 46 (.pointer (some ⟨hb,0,none⟩))) av stk2 (ss) l nx an ls ags):=fun stk' W hW=>by
  have q0:=zbF r T gs n pl C _ av stk' ss l nx an ls ags x y k0 w0 W hW (by omega)
  rw[hY,<-hLX] at q0
  refine Calls.mono q0 ?_
  rintro e w' ⟨q1,_,q3,stk2,q⟩
  exact⟨q1,q3,stk2,q⟩
 have HIX:Hid ((Tryz.prog.info? 27).map (·.size)=some (LX:List Value).length/\(LX:List Value).length=zW.length/\(LX:List Value).toArray.all (·.oneCell')=true):=by rw[hLX];exact⟨zaU _,zaV _,zbH _⟩
 have HIY:Hid ((Tryz.prog.info? 27).map (·.size)=some ([.int .u64 y0,.int .u64 y1,.int .u64 y2,.int .u64 y3]:List Value).length/\([.int .u64 y0,.int .u64 y1,.int .u64 y2,.int .u64 y3]:List Value).length=zW.length/\([.int .u64 y0,.int .u64 y1,.int .u64 y2,.int .u64 y3]:List Value).toArray.all (·.oneCell')=true):=by rw[<-hY];exact⟨zaU _,zaV _,zbH _⟩
 have HIZ:Hid ((Tryz.prog.info? 27).map (·.size)=some ([.int .u64 z0,.int .u64 z1,.int .u64 z2,.int .u64 z3]:List Value).length/\([.int .u64 z0,.int .u64 z1,.int .u64 z2,.int .u64 z3]:List Value).length=zW.length/\([.int .u64 z0,.int .u64 z1,.int .u64 z2,.int .u64 z3]:List Value).toArray.all (·.oneCell')=true):=by rw[<-hZ];exact⟨zaU _,zaV _,zbH _⟩
 have HTO:Hid (∀ W,Calls Tryz.prog 86 #[.agg LX.toArray] W fun e w'=>e=.returned (.tuple #[.int .i64 0,.bool false])/\Below W.heap.size W w'):=fun W=>by rw[hLX];exact zpN x hx h6 W
 have HH:Hid (Rn k0 w0 w r T gs n pl C (.iface 46 (.pointer (some ⟨hb,0,none⟩))) av stk (ss++[x]++[y]++[z]) l nx an ls ags):=H
 clear H hss hLX hY hZ hx h6 hy0 hy1 hy2 hy3 hz0 hz1 hz2 hz3
 go_enter Tryz.func67,Tryz.ntmps67
 go_upto_region 2 with (first
  |(refine zaF 97 rfl (.tmp 1) rfl I rfl ?_;intro X1 q1 q2 q3;have HR:Hid (Rn k0 w0 X1 r T gs n pl C (.iface 46 (.pointer (some ⟨hb,0,none⟩))) av stk (ss++[x]++[y]++[z]) l nx an ls ags):=HH.out.keep q2;clear q1 q2 q3;simp only[Act.put,jA,jB,jC])
  |(go_at_call 71;refine Calls.mono (HTK.out X1 HR.out) ?_;rintro e V1 ⟨rfl,stkA,q⟩;have HRA:Hid (Rn k0 w0 V1 r T gs n pl C (.iface 46 (.pointer (some ⟨hb,0,none⟩))) av stkA (ss++[x]++[y]) l nx an ls ags):=q;clear q)
  |(refine zaK rfl (by rfl:_=Op.alloc 27) ?_;intro V2 (RV2:Hid (Row V2 V1.heap.size zW 27)) (BV2:Hid (Below V1.heap.size V1 V2)) q3;clear q3;simp only[Act.put,jA,jB,jC])
  |(refine zaD rfl 27 (.tmp 5) (.tmp 11) rfl V1.heap.size [.int .u64 z0,.int .u64 z1,.int .u64 z2,.int .u64 z3] zW 27 rfl rfl RV2.out HIZ.out.2.1 HIZ.out.1 HIZ.out.2.2 ?_;intro V3 (EV3:Hid (V3=_)) (RV3:Hid (Row V3 V1.heap.size [.int .u64 z0,.int .u64 z1,.int .u64 z2,.int .u64 z3] 27));simp only[Act.put]))
 have DV3:Below V1.heap.size V1 V3:=by rw[EV3.out];exact zaC BV2.out (Nat.le_refl _) _
 have HRA3:Hid (Rn k0 w0 V3 r T gs n pl C (.iface 46 (.pointer (some ⟨hb,0,none⟩))) av stkA (ss++[x]++[y]) l nx an ls ags):=HRA.out.keep DV3
 obtain⟨bz,hbz⟩:∃ b,b=V1.heap.size:=⟨_,rfl⟩
 rw[<-hbz] at RV3 ⊢
 have HNR:Hid (bz≠r):=zaN RV3.out HRA3.out.row (by decide)
 clear hbz DV3 EV3 RV2 BV2 HRA HR
 go_upto_region 3 with (first
  |(go_at_call 75;refine Calls.mono (HTT.out stkA V3 HRA3.out) ?_;rintro e X2 ⟨rfl,qr,stk2,q⟩;have HR2:Hid (Rn k0 w0 X2 r T gs n pl C (.iface 46 (.pointer (some ⟨hb,0,none⟩))) av stk2 (ss) l nx an ls ags):=q;have RZ2:Hid (Row X2 bz [.int .u64 z0,.int .u64 z1,.int .u64 z2,.int .u64 z3] 27):=qr RV3.out HNR.out;clear q qr)
  |(refine zaK rfl (by rfl:_=Op.alloc 27) ?_;intro X3 (R3:Hid (Row X3 X2.heap.size zW 27)) (B3:Hid (Below X2.heap.size X2 X3)) (S3:Hid (X3.heap.size=X2.heap.size+1));refine zaK rfl (by rfl:_=Op.alloc 27) ?_;intro X4 (R4:Hid (Row X4 X3.heap.size zW 27)) (B4:Hid (Below X3.heap.size X3 X4)) q3;clear q3;simp only[Act.put,jA,jB,jC])
  |(refine zaD rfl 27 (.tmp 6) (.tmp 15) rfl X2.heap.size LX zW 27 rfl rfl (Row.below R3.out B4.out R3.out.lt) HIX.out.2.1 HIX.out.1 HIX.out.2.2 ?_;intro X5 (E5:Hid (X5=_)) (R5:Hid (Row X5 X2.heap.size LX 27));simp only[Act.put])
  |(refine zaD rfl 27 (.tmp 7) (.tmp 16) rfl X3.heap.size [.int .u64 y0,.int .u64 y1,.int .u64 y2,.int .u64 y3] zW 27 rfl rfl (by rw[E5.out];exact Row.setCells_other R4.out _ _ _ (by have:=S3.out;omega)) HIY.out.2.1 HIY.out.1 HIY.out.2.2 ?_;intro X6 (E6:Hid (X6=_)) (R6:Hid (Row X6 X3.heap.size [.int .u64 y0,.int .u64 y1,.int .u64 y2,.int .u64 y3] 27));simp only[Act.put]))
 have D6:Below X2.heap.size X2 X6:=by
  rw[E6.out,E5.out]
  exact zaC (zaC (B3.out.trans (B4.out.mono (by rw[S3.out];omega))) (Nat.le_refl _) _) (by rw[S3.out];omega) _
 have R56:Hid (Row X6 X2.heap.size LX 27):=by rw[E6.out];exact Row.setCells_other R5.out _ _ _ (by have:=S3.out;omega)
 have RZ6:Hid (Row X6 bz [.int .u64 z0,.int .u64 z1,.int .u64 z2,.int .u64 z3] 27):=Row.below RZ2.out D6 RZ2.out.lt
 have HR6:Hid (Rn k0 w0 X6 r T gs n pl C (.iface 46 (.pointer (some ⟨hb,0,none⟩))) av stk2 (ss) l nx an ls ags):=HR2.out.keep D6
 obtain⟨b5,hb5⟩:∃ b,b=X2.heap.size:=⟨_,rfl⟩
 obtain⟨b6,hb6⟩:∃ b,b=X3.heap.size:=⟨_,rfl⟩
 rw[<-hb6] at R6 ⊢
 rw[<-hb5] at R56 ⊢
 clear hb5 hb6 D6 E6 E5 R5 R4 B4 R3 B3 S3 HR2 HRA3 RZ2 RV3
 go_wp2_with (first
  |(refine zaG rfl 27 (.tmp 6) rfl b5 0 rfl LX _ R56.out.all Tryz.underlying27 rfl HIX.out.1 ?_;simp only[Act.put,jA,jB,jC])
  |(go_at_call 86;refine Calls.mono (HTO.out X6) ?_;rintro e X7 ⟨rfl,q⟩;have HR7:Hid (Rn k0 w0 X7 r T gs n pl C (.iface 46 (.pointer (some ⟨hb,0,none⟩))) av stk2 (ss) l nx an ls ags):=HR6.out.keep q;have R7:Hid (Row X7 b6 [.int .u64 y0,.int .u64 y1,.int .u64 y2,.int .u64 y3] 27):=Row.below R6.out q R6.out.lt;have RZ7:Hid (Row X7 bz [.int .u64 z0,.int .u64 z1,.int .u64 z2,.int .u64 z3] 27):=Row.below RZ6.out q RZ6.out.lt;clear q))
 go_ret
 exact⟨rfl,stk2,HR7.out⟩
theorem do_send (r T gs n:Nat) (pl:Value) (C:List Value) (hb:Nat) (av stk:Value) (ss:List Nat) (l nx:Nat) (an:List Value) (ls:List Ins) (ags:List Nat) (I:List Value) (x y z:Nat) (hx:x<2 ^ 256) (h6:x<64) (P:Int->World->World->Prop) (k0 w0 w:World) (H:Rn k0 w0 w r T gs n pl C (.iface 46 (.pointer (some ⟨hb,0,none⟩))) av stk (ss++[x]++[y]++[z]) l nx an ls ags) (hss:ss.length<=900)
 (hh:∀ stk' W,Rn k0 w0 W r T gs n pl C (.iface 46 (.pointer (some ⟨hb,0,none⟩))) av stk' (ss) l nx an ls ags->Calls Tryz.prog 131 #[.pointer (some ⟨hb,0,none⟩),.int .i64 (x:Int),.agg (adr y).toArray,.agg (wq z).toArray] W fun e w'=>∃ E,e=.returned (.int .i64 E)/\∃ w1,P E w' w1/\Rn w' w1 w' r T gs n pl C (.iface 46 (.pointer (some ⟨hb,0,none⟩))) av stk' (ss) l nx an ls ags):Calls Tryz.prog 67 #[.pointer (some ⟨r,0,none⟩),.agg I.toArray] w fun e w'=>∃ E w1,e=.returned (.int .i64 E)/\P E w' w1/\∃ stk',Rn w' w1 w' r T gs n pl C (.iface 46 (.pointer (some ⟨hb,0,none⟩))) av stk' (ss) l nx an ls ags:=by
 obtain⟨LA,hLA⟩:∃ L,L=adr y:=⟨_,rfl⟩
 obtain⟨LX,hLX⟩:∃ L,L=wq x:=⟨_,rfl⟩
 obtain⟨y0,hy0⟩:∃ a,a=((lim y 0:Nat):Int):=⟨_,rfl⟩
 obtain⟨y1,hy1⟩:∃ a,a=((lim y 1:Nat):Int):=⟨_,rfl⟩
 obtain⟨y2,hy2⟩:∃ a,a=((lim y 2:Nat):Int):=⟨_,rfl⟩
 obtain⟨y3,hy3⟩:∃ a,a=((lim y 3:Nat):Int):=⟨_,rfl⟩
 obtain⟨z0,hz0⟩:∃ a,a=((lim z 0:Nat):Int):=⟨_,rfl⟩
 obtain⟨z1,hz1⟩:∃ a,a=((lim z 1:Nat):Int):=⟨_,rfl⟩
 obtain⟨z2,hz2⟩:∃ a,a=((lim z 2:Nat):Int):=⟨_,rfl⟩
 obtain⟨z3,hz3⟩:∃ a,a=((lim z 3:Nat):Int):=⟨_,rfl⟩
 have hY:wq y=[.int .u64 y0,.int .u64 y1,.int .u64 y2,.int .u64 y3]:=by rw[zaQ,hy0,hy1,hy2,hy3]
 have hZ:wq z=[.int .u64 z0,.int .u64 z1,.int .u64 z2,.int .u64 z3]:=by rw[zaQ,hz0,hz1,hz2,hz3]
 have HTK:Hid (∀ W,Rn k0 w0 W r T gs n pl C (.iface 46 (.pointer (some ⟨hb,0,none⟩))) av stk (ss++[x]++[y]++[z]) l nx an ls ags->Calls Tryz.prog 71 #[.pointer (some ⟨r,0,none⟩)] W fun e w'=>e=.returned (.agg #[.int .u64 z0,.int .u64 z1,.int .u64 z2,.int .u64 z3])/\∃ stk',Rn k0 w0 w' r T gs n pl C (.iface 46 (.pointer (some ⟨hb,0,none⟩))) av stk' (ss++[x]++[y]) l nx an ls ags):=fun W hW=>by
  have q0:=zdB r T gs n pl C _ av stk (ss++[x]++[y]) l nx an ls ags z k0 w0 W hW (by simp only[List.length_append,List.length_singleton];omega)
  rw[hZ] at q0
  refine Calls.mono q0 ?_
  rintro e w' ⟨q1,_,_,stk2,_,q⟩
  exact⟨q1,stk2,q⟩
 have HTT:Hid (∀ stk' W,Rn k0 w0 W r T gs n pl C (.iface 46 (.pointer (some ⟨hb,0,none⟩))) av stk' (ss++[x]++[y]) l nx an ls ags->Calls Tryz.prog 75 #[.pointer (some ⟨r,0,none⟩)] W fun e w'=>e=.returned (.tuple #[.agg LX.toArray,.agg #[.int .u64 y0,.int .u64 y1,.int .u64 y2,.int .u64 y3]])/\(∀ {b:Nat} {cs:List Value} {t:TypeId},Row W b cs t->b≠r->Row w' b cs t)/\∃ stk2,Rn k0 w0 w' r T gs n pl C (.iface 46 (.pointer (some ⟨hb,0,none⟩))) av stk2 (ss) l nx an ls ags):=fun stk' W hW=>by
  have q0:=zbF r T gs n pl C _ av stk' ss l nx an ls ags x y k0 w0 W hW (by omega)
  rw[hY,<-hLX] at q0
  refine Calls.mono q0 ?_
  rintro e w' ⟨q1,_,q3,stk2,q⟩
  exact⟨q1,q3,stk2,q⟩
 have HIX:Hid ((Tryz.prog.info? 27).map (·.size)=some (LX:List Value).length/\(LX:List Value).length=zW.length/\(LX:List Value).toArray.all (·.oneCell')=true):=by rw[hLX];exact⟨zaU _,zaV _,zbH _⟩
 have HIY:Hid ((Tryz.prog.info? 27).map (·.size)=some ([.int .u64 y0,.int .u64 y1,.int .u64 y2,.int .u64 y3]:List Value).length/\([.int .u64 y0,.int .u64 y1,.int .u64 y2,.int .u64 y3]:List Value).length=zW.length/\([.int .u64 y0,.int .u64 y1,.int .u64 y2,.int .u64 y3]:List Value).toArray.all (·.oneCell')=true):=by rw[<-hY];exact⟨zaU _,zaV _,zbH _⟩
 have HIZ:Hid ((Tryz.prog.info? 27).map (·.size)=some ([.int .u64 z0,.int .u64 z1,.int .u64 z2,.int .u64 z3]:List Value).length/\([.int .u64 z0,.int .u64 z1,.int .u64 z2,.int .u64 z3]:List Value).length=zW.length/\([.int .u64 z0,.int .u64 z1,.int .u64 z2,.int .u64 z3]:List Value).toArray.all (·.oneCell')=true):=by rw[<-hZ];exact⟨zaU _,zaV _,zbH _⟩
 have HTO:Hid (∀ W,Calls Tryz.prog 86 #[.agg LX.toArray] W fun e w'=>e=.returned (.tuple #[.int .i64 (x:Int),.bool true])/\Below W.heap.size W w'):=fun W=>by rw[hLX];exact zpM x hx h6 W
 have HAD:Hid (∀ W,Calls Tryz.prog 87 #[.agg #[.int .u64 y0,.int .u64 y1,.int .u64 y2,.int .u64 y3]] W fun e w'=>e=.returned (.agg LA.toArray)/\Below W.heap.size W w'):=fun W=>by
  have q:=zgA y W
  rw[hY,<-hLA] at q
  exact q
 have HHO:Hid (∀ stk' W,Rn k0 w0 W r T gs n pl C (.iface 46 (.pointer (some ⟨hb,0,none⟩))) av stk' (ss) l nx an ls ags->Calls Tryz.prog 131 #[.pointer (some ⟨hb,0,none⟩),.int .i64 (x:Int),.agg LA.toArray,.agg #[.int .u64 z0,.int .u64 z1,.int .u64 z2,.int .u64 z3]] W fun e w'=>∃ E,e=.returned (.int .i64 E)/\∃ w1,P E w' w1/\Rn w' w1 w' r T gs n pl C (.iface 46 (.pointer (some ⟨hb,0,none⟩))) av stk' (ss) l nx an ls ags):=fun stk' W hW=>by
  have q:=hh stk' W hW
  rw[<-hLA,hZ] at q
  exact q
 have HH:Hid (Rn k0 w0 w r T gs n pl C (.iface 46 (.pointer (some ⟨hb,0,none⟩))) av stk (ss++[x]++[y]++[z]) l nx an ls ags):=H
 clear H hss hLA hh hLX hY hZ hx h6 hy0 hy1 hy2 hy3 hz0 hz1 hz2 hz3
 go_enter Tryz.func67,Tryz.ntmps67
 go_upto_region 2 with (first
  |(refine zaF 97 rfl (.tmp 1) rfl I rfl ?_;intro X1 q1 q2 q3;have HR:Hid (Rn k0 w0 X1 r T gs n pl C (.iface 46 (.pointer (some ⟨hb,0,none⟩))) av stk (ss++[x]++[y]++[z]) l nx an ls ags):=HH.out.keep q2;clear q1 q2 q3;simp only[Act.put,jA,jB,jC])
  |(go_at_call 71;refine Calls.mono (HTK.out X1 HR.out) ?_;rintro e V1 ⟨rfl,stkA,q⟩;have HRA:Hid (Rn k0 w0 V1 r T gs n pl C (.iface 46 (.pointer (some ⟨hb,0,none⟩))) av stkA (ss++[x]++[y]) l nx an ls ags):=q;clear q)
  |(refine zaK rfl (by rfl:_=Op.alloc 27) ?_;intro V2 (RV2:Hid (Row V2 V1.heap.size zW 27)) (BV2:Hid (Below V1.heap.size V1 V2)) q3;clear q3;simp only[Act.put,jA,jB,jC])
  |(refine zaD rfl 27 (.tmp 5) (.tmp 11) rfl V1.heap.size [.int .u64 z0,.int .u64 z1,.int .u64 z2,.int .u64 z3] zW 27 rfl rfl RV2.out HIZ.out.2.1 HIZ.out.1 HIZ.out.2.2 ?_;intro V3 (EV3:Hid (V3=_)) (RV3:Hid (Row V3 V1.heap.size [.int .u64 z0,.int .u64 z1,.int .u64 z2,.int .u64 z3] 27));simp only[Act.put]))
 have DV3:Below V1.heap.size V1 V3:=by rw[EV3.out];exact zaC BV2.out (Nat.le_refl _) _
 have HRA3:Hid (Rn k0 w0 V3 r T gs n pl C (.iface 46 (.pointer (some ⟨hb,0,none⟩))) av stkA (ss++[x]++[y]) l nx an ls ags):=HRA.out.keep DV3
 obtain⟨bz,hbz⟩:∃ b,b=V1.heap.size:=⟨_,rfl⟩
 rw[<-hbz] at RV3 ⊢
 have HNR:Hid (bz≠r):=zaN RV3.out HRA3.out.row (by decide)
 clear hbz DV3 EV3 RV2 BV2 HRA HR
 go_upto_region 3 with (first
  |(go_at_call 75;refine Calls.mono (HTT.out stkA V3 HRA3.out) ?_;rintro e X2 ⟨rfl,qr,stk2,q⟩;have HR2:Hid (Rn k0 w0 X2 r T gs n pl C (.iface 46 (.pointer (some ⟨hb,0,none⟩))) av stk2 (ss) l nx an ls ags):=q;have RZ2:Hid (Row X2 bz [.int .u64 z0,.int .u64 z1,.int .u64 z2,.int .u64 z3] 27):=qr RV3.out HNR.out;clear q qr)
  |(refine zaK rfl (by rfl:_=Op.alloc 27) ?_;intro X3 (R3:Hid (Row X3 X2.heap.size zW 27)) (B3:Hid (Below X2.heap.size X2 X3)) (S3:Hid (X3.heap.size=X2.heap.size+1));refine zaK rfl (by rfl:_=Op.alloc 27) ?_;intro X4 (R4:Hid (Row X4 X3.heap.size zW 27)) (B4:Hid (Below X3.heap.size X3 X4)) q3;clear q3;simp only[Act.put,jA,jB,jC])
  |(refine zaD rfl 27 (.tmp 6) (.tmp 15) rfl X2.heap.size LX zW 27 rfl rfl (Row.below R3.out B4.out R3.out.lt) HIX.out.2.1 HIX.out.1 HIX.out.2.2 ?_;intro X5 (E5:Hid (X5=_)) (R5:Hid (Row X5 X2.heap.size LX 27));simp only[Act.put])
  |(refine zaD rfl 27 (.tmp 7) (.tmp 16) rfl X3.heap.size [.int .u64 y0,.int .u64 y1,.int .u64 y2,.int .u64 y3] zW 27 rfl rfl (by rw[E5.out];exact Row.setCells_other R4.out _ _ _ (by have:=S3.out;omega)) HIY.out.2.1 HIY.out.1 HIY.out.2.2 ?_;intro X6 (E6:Hid (X6=_)) (R6:Hid (Row X6 X3.heap.size [.int .u64 y0,.int .u64 y1,.int .u64 y2,.int .u64 y3] 27));simp only[Act.put]))
 have D6:Below X2.heap.size X2 X6:=by
  rw[E6.out,E5.out]
  exact zaC (zaC (B3.out.trans (B4.out.mono (by rw[S3.out];omega))) (Nat.le_refl _) _) (by rw[S3.out];omega) _
 have R56:Hid (Row X6 X2.heap.size LX 27):=by rw[E6.out];exact Row.setCells_other R5.out _ _ _ (by have:=S3.out;omega)
 have RZ6:Hid (Row X6 bz [.int .u64 z0,.int .u64 z1,.int .u64 z2,.int .u64 z3] 27):=Row.below RZ2.out D6 RZ2.out.lt
 have HR6:Hid (Rn k0 w0 X6 r T gs n pl C (.iface 46 (.pointer (some ⟨hb,0,none⟩))) av stk2 (ss) l nx an ls ags):=HR2.out.keep D6
 obtain⟨b5,hb5⟩:∃ b,b=X2.heap.size:=⟨_,rfl⟩
 obtain⟨b6,hb6⟩:∃ b,b=X3.heap.size:=⟨_,rfl⟩
 rw[<-hb6] at R6 ⊢
 rw[<-hb5] at R56 ⊢
 clear hb5 hb6 D6 E6 E5 R5 R4 B4 R3 B3 S3 HR2 HRA3 RZ2 RV3
 go_upto_region 6 with (first
  |(refine zaG rfl 27 (.tmp 6) rfl b5 0 rfl LX _ R56.out.all Tryz.underlying27 rfl HIX.out.1 ?_;simp only[Act.put,jA,jB,jC])
  |(go_at_call 86;refine Calls.mono (HTO.out X6) ?_;rintro e X7 ⟨rfl,q⟩;have HR7:Hid (Rn k0 w0 X7 r T gs n pl C (.iface 46 (.pointer (some ⟨hb,0,none⟩))) av stk2 (ss) l nx an ls ags):=HR6.out.keep q;have R7:Hid (Row X7 b6 [.int .u64 y0,.int .u64 y1,.int .u64 y2,.int .u64 y3] 27):=Row.below R6.out q R6.out.lt;have RZ7:Hid (Row X7 bz [.int .u64 z0,.int .u64 z1,.int .u64 z2,.int .u64 z3] 27):=Row.below RZ6.out q RZ6.out.lt;clear q))
 have c51:X7.cell? ⟨r,51,none⟩=some (.iface 46 (.pointer (some ⟨hb,0,none⟩))):=HR7.out.row.cell 51 _ (zbX HR7.out.clen 0)
 have a0:=R7.out.cell 0 _ rfl
 have a1:=R7.out.cell 1 _ rfl
 have a2:=R7.out.cell 2 _ rfl
 have a3:=R7.out.cell 3 _ rfl
 have p0:=RZ7.out.cell 0 _ rfl
 have p1:=RZ7.out.cell 1 _ rfl
 have p2:=RZ7.out.cell 2 _ rfl
 have p3:=RZ7.out.cell 3 _ rfl
 go_region_law (first
  |(refine zdT rfl 87 rfl #[.agg #[.int .u64 y0,.int .u64 y1,.int .u64 y2,.int .u64 y3]] (by go_simp) (Calls.mono (HAD.out _) ?_);rintro e X8 ⟨rfl,q⟩;refine⟨_,rfl,?_⟩;have HR8:Hid (Rn k0 w0 X8 r T gs n pl C (.iface 46 (.pointer (some ⟨hb,0,none⟩))) av stk2 (ss) l nx an ls ags):=(HR7.out.drewN 1).keep q;have d51:X8.cell? ⟨r,51,none⟩=some (.iface 46 (.pointer (some ⟨hb,0,none⟩))):=HR8.out.row.cell 51 _ (zbX HR8.out.clen 0);have rz8:Row X8 bz [.int .u64 z0,.int .u64 z1,.int .u64 z2,.int .u64 z3] 27:=Row.below (RZ7.out.drewN 1) q (RZ7.out.drewN 1).lt;have s0:=rz8.cell 0 _ rfl;have s1:=rz8.cell 1 _ rfl;have s2:=rz8.cell 2 _ rfl;have s3:=rz8.cell 3 _ rfl;clear q rz8)
  |(refine zpJ rfl 131 rfl #[.pointer (some ⟨hb,0,none⟩),.int .i64 (x:Int),.agg LA.toArray,.agg #[.int .u64 z0,.int .u64 z1,.int .u64 z2,.int .u64 z3]] (by go_simp;kernel_rfl) (Calls.mono (HHO.out stk2 X8 HR8.out) ?_);rintro e X9 ⟨E,rfl,w1,qP,q⟩;refine⟨_,rfl,?_⟩;have HP:Hid (P E X9 w1):=qP;have HR9:Hid (Rn X9 w1 X9 r T gs n pl C (.iface 46 (.pointer (some ⟨hb,0,none⟩))) av stk2 (ss) l nx an ls ags):=q;clear q qP))
 all_goals
  clear c51 d51 a0 a1 a2 a3 p0 p1 p2 p3 s0 s1 s2 s3
  go_wp2
  go_ret
  exact⟨E,w1,rfl,HP.out,stk2,HR9.out⟩
theorem zqI (r T gs n:Nat) (pl:Value) (C:List Value) (hb:Nat) (av stk:Value) (ss:List Nat) (l nx:Nat) (an:List Value) (ls:List Ins) (ags:List Nat) (I:List Value) (x y:Nat) (hx:x<2 ^ 256) (h6:¬ x<64) (k0 w0 w:World) (H:Rn k0 w0 w r T gs n pl C (.iface 46 (.pointer (some ⟨hb,0,none⟩))) av stk (ss++[x]++[y]) l nx an ls ags) (hss:ss.length<=900):Calls Tryz.prog 66 #[.pointer (some ⟨r,0,none⟩),.agg I.toArray] w fun e w'=>e=.returned (.int .i64 104)/\∃ stk',Rn k0 w0 w' r T gs n pl C (.iface 46 (.pointer (some ⟨hb,0,none⟩))) av stk' (ss) l nx an ls ags:=by
 obtain⟨LX,hLX⟩:∃ L,L=wq x:=⟨_,rfl⟩
 obtain⟨y0,hy0⟩:∃ a,a=((lim y 0:Nat):Int):=⟨_,rfl⟩
 obtain⟨y1,hy1⟩:∃ a,a=((lim y 1:Nat):Int):=⟨_,rfl⟩
 obtain⟨y2,hy2⟩:∃ a,a=((lim y 2:Nat):Int):=⟨_,rfl⟩
 obtain⟨y3,hy3⟩:∃ a,a=((lim y 3:Nat):Int):=⟨_,rfl⟩
 have hY:wq y=[.int .u64 y0,.int .u64 y1,.int .u64 y2,.int .u64 y3]:=by rw[zaQ,hy0,hy1,hy2,hy3]
 have HTT:Hid (∀ W,Rn k0 w0 W r T gs n pl C (.iface 46 (.pointer (some ⟨hb,0,none⟩))) av stk (ss++[x]++[y]) l nx an ls ags->Calls Tryz.prog 75 #[.pointer (some ⟨r,0,none⟩)] W fun e w'=>e=.returned (.tuple #[.agg LX.toArray,.agg #[.int .u64 y0,.int .u64 y1,.int .u64 y2,.int .u64 y3]])/\∃ stk',Rn k0 w0 w' r T gs n pl C (.iface 46 (.pointer (some ⟨hb,0,none⟩))) av stk' (ss) l nx an ls ags):=fun W hW=>by
  have q0:=zbF r T gs n pl C _ av stk ss l nx an ls ags x y k0 w0 W hW (by omega)
  rw[hY,<-hLX] at q0
  refine Calls.mono q0 ?_
  rintro e w' ⟨q1,_,_,stk2,q⟩
  exact⟨q1,stk2,q⟩
 have HIX:Hid ((Tryz.prog.info? 27).map (·.size)=some LX.length/\LX.length=zW.length/\LX.toArray.all (·.oneCell')=true):=by rw[hLX];exact⟨zaU _,zaV _,zbH _⟩
 have HIY:Hid ((Tryz.prog.info? 27).map (·.size)=some ([.int .u64 y0,.int .u64 y1,.int .u64 y2,.int .u64 y3]:List Value).length/\([.int .u64 y0,.int .u64 y1,.int .u64 y2,.int .u64 y3]:List Value).length=zW.length/\([.int .u64 y0,.int .u64 y1,.int .u64 y2,.int .u64 y3]:List Value).toArray.all (·.oneCell')=true):=by rw[<-hY];exact⟨zaU _,zaV _,zbH _⟩
 have HTO:Hid (∀ W,Calls Tryz.prog 86 #[.agg LX.toArray] W fun e w'=>e=.returned (.tuple #[.int .i64 0,.bool false])/\Below W.heap.size W w'):=fun W=>by rw[hLX];exact zpN x hx h6 W
 have HH:Hid (Rn k0 w0 w r T gs n pl C (.iface 46 (.pointer (some ⟨hb,0,none⟩))) av stk (ss++[x]++[y]) l nx an ls ags):=H
 clear H hss hLX hY hx h6 hy0 hy1 hy2 hy3
 go_enter Tryz.func66,Tryz.ntmps66
 go_upto_region 2 with (first
  |(refine zaF 97 rfl (.tmp 1) rfl I rfl ?_;intro X1 q1 q2 q3;have HR:Hid (Rn k0 w0 X1 r T gs n pl C (.iface 46 (.pointer (some ⟨hb,0,none⟩))) av stk (ss++[x]++[y]) l nx an ls ags):=HH.out.keep q2;clear q1 q2 q3;simp only[Act.put,jA,jB,jC])
  |(go_at_call 75;refine Calls.mono (HTT.out X1 HR.out) ?_;rintro e X2 ⟨rfl,stk2,q⟩;have HR2:Hid (Rn k0 w0 X2 r T gs n pl C (.iface 46 (.pointer (some ⟨hb,0,none⟩))) av stk2 (ss) l nx an ls ags):=q;clear q)
  |(refine zaK rfl (by rfl:_=Op.alloc 27) ?_;intro X3 (R3:Hid (Row X3 X2.heap.size zW 27)) (B3:Hid (Below X2.heap.size X2 X3)) (S3:Hid (X3.heap.size=X2.heap.size+1));refine zaK rfl (by rfl:_=Op.alloc 27) ?_;intro X4 (R4:Hid (Row X4 X3.heap.size zW 27)) (B4:Hid (Below X3.heap.size X3 X4)) q3;clear q3;simp only[Act.put,jA,jB,jC])
  |(refine zaD rfl 27 (.tmp 5) (.tmp 12) rfl X2.heap.size LX zW 27 rfl rfl (Row.below R3.out B4.out R3.out.lt) HIX.out.2.1 HIX.out.1 HIX.out.2.2 ?_;intro X5 (E5:Hid (X5=_)) (R5:Hid (Row X5 X2.heap.size LX 27));simp only[Act.put])
  |(refine zaD rfl 27 (.tmp 6) (.tmp 13) rfl X3.heap.size [.int .u64 y0,.int .u64 y1,.int .u64 y2,.int .u64 y3] zW 27 rfl rfl (by rw[E5.out];exact Row.setCells_other R4.out _ _ _ (by have:=S3.out;omega)) HIY.out.2.1 HIY.out.1 HIY.out.2.2 ?_;intro X6 (E6:Hid (X6=_)) (R6:Hid (Row X6 X3.heap.size [.int .u64 y0,.int .u64 y1,.int .u64 y2,.int .u64 y3] 27));simp only[Act.put]))
 have D6:Below X2.heap.size X2 X6:=by
  rw[E6.out,E5.out]
  exact zaC (zaC (B3.out.trans (B4.out.mono (by rw[S3.out];omega))) (Nat.le_refl _) _) (by rw[S3.out];omega) _
 have R56:Hid (Row X6 X2.heap.size LX 27):=by rw[E6.out];exact Row.setCells_other R5.out _ _ _ (by have:=S3.out;omega)
 have HR6:Hid (Rn k0 w0 X6 r T gs n pl C (.iface 46 (.pointer (some ⟨hb,0,none⟩))) av stk2 (ss) l nx an ls ags):=HR2.out.keep D6
 obtain⟨b5,hb5⟩:∃ b,b=X2.heap.size:=⟨_,rfl⟩
 obtain⟨b6,hb6⟩:∃ b,b=X3.heap.size:=⟨_,rfl⟩
 rw[<-hb6] at R6 ⊢
 rw[<-hb5] at R56 ⊢
 clear hb5 hb6 D6 E6 E5 R5 R4 B4 R3 B3 S3 HR2 HR
 go_wp2_with (first
  |(refine zaG rfl 27 (.tmp 5) rfl b5 0 rfl LX _ R56.out.all Tryz.underlying27 rfl HIX.out.1 ?_;simp only[Act.put,jA,jB,jC])
  |(go_at_call 86;refine Calls.mono (HTO.out X6) ?_;rintro e X7 ⟨rfl,q⟩;have HR7:Hid (Rn k0 w0 X7 r T gs n pl C (.iface 46 (.pointer (some ⟨hb,0,none⟩))) av stk2 (ss) l nx an ls ags):=HR6.out.keep q;have R7:Hid (Row X7 b6 [.int .u64 y0,.int .u64 y1,.int .u64 y2,.int .u64 y3] 27):=Row.below R6.out q R6.out.lt;clear q))
 go_ret
 exact⟨rfl,stk2,HR7.out⟩
theorem do_have (r T gs n:Nat) (pl:Value) (C:List Value) (hb:Nat) (av stk:Value) (ss:List Nat) (l nx:Nat) (an:List Value) (ls:List Ins) (ags:List Nat) (I:List Value) (x y:Nat) (hx:x<2 ^ 256) (h6:x<64) (P:Nat->Int->World->World->Prop) (k0 w0 w:World) (H:Rn k0 w0 w r T gs n pl C (.iface 46 (.pointer (some ⟨hb,0,none⟩))) av stk (ss++[x]++[y]) l nx an ls ags) (hss:ss.length<=900)
 (hh:∀ stk' W,Rn k0 w0 W r T gs n pl C (.iface 46 (.pointer (some ⟨hb,0,none⟩))) av stk' (ss) l nx an ls ags->Calls Tryz.prog 128 #[.pointer (some ⟨hb,0,none⟩),.int .i64 (x:Int),.agg (adr y).toArray] W fun e w'=>∃ v E,e=.returned (.tuple #[.agg (wq v).toArray,.int .i64 E])/\∃ w1,P v E w' w1/\Rn w' w1 w' r T gs n pl C (.iface 46 (.pointer (some ⟨hb,0,none⟩))) av stk' (ss) l nx an ls ags):Calls Tryz.prog 66 #[.pointer (some ⟨r,0,none⟩),.agg I.toArray] w fun e w'=>∃ v E X w1,P v E X w1/\((E=0/\e=.returned (.int .i64 0)/\∃ stk',Rn X w1 w' r T gs n pl C (.iface 46 (.pointer (some ⟨hb,0,none⟩))) av stk' (ss++[v]) l nx an ls ags)\/(E≠0/\e=.returned (.int .i64 E)/\∃ stk',Rn X w1 w' r T gs n pl C (.iface 46 (.pointer (some ⟨hb,0,none⟩))) av stk' (ss) l nx an ls ags)):=by
 obtain⟨LA,hLA⟩:∃ L,L=adr y:=⟨_,rfl⟩
 obtain⟨LX,hLX⟩:∃ L,L=wq x:=⟨_,rfl⟩
 obtain⟨y0,hy0⟩:∃ a,a=((lim y 0:Nat):Int):=⟨_,rfl⟩
 obtain⟨y1,hy1⟩:∃ a,a=((lim y 1:Nat):Int):=⟨_,rfl⟩
 obtain⟨y2,hy2⟩:∃ a,a=((lim y 2:Nat):Int):=⟨_,rfl⟩
 obtain⟨y3,hy3⟩:∃ a,a=((lim y 3:Nat):Int):=⟨_,rfl⟩
 have hY:wq y=[.int .u64 y0,.int .u64 y1,.int .u64 y2,.int .u64 y3]:=by rw[zaQ,hy0,hy1,hy2,hy3]
 have HTT:Hid (∀ W,Rn k0 w0 W r T gs n pl C (.iface 46 (.pointer (some ⟨hb,0,none⟩))) av stk (ss++[x]++[y]) l nx an ls ags->Calls Tryz.prog 75 #[.pointer (some ⟨r,0,none⟩)] W fun e w'=>e=.returned (.tuple #[.agg LX.toArray,.agg #[.int .u64 y0,.int .u64 y1,.int .u64 y2,.int .u64 y3]])/\∃ stk',Rn k0 w0 w' r T gs n pl C (.iface 46 (.pointer (some ⟨hb,0,none⟩))) av stk' (ss) l nx an ls ags):=fun W hW=>by
  have q0:=zbF r T gs n pl C _ av stk ss l nx an ls ags x y k0 w0 W hW (by omega)
  rw[hY,<-hLX] at q0
  refine Calls.mono q0 ?_
  rintro e w' ⟨q1,_,_,stk2,q⟩
  exact⟨q1,stk2,q⟩
 have HIX:Hid ((Tryz.prog.info? 27).map (·.size)=some LX.length/\LX.length=zW.length/\LX.toArray.all (·.oneCell')=true):=by rw[hLX];exact⟨zaU _,zaV _,zbH _⟩
 have HIY:Hid ((Tryz.prog.info? 27).map (·.size)=some ([.int .u64 y0,.int .u64 y1,.int .u64 y2,.int .u64 y3]:List Value).length/\([.int .u64 y0,.int .u64 y1,.int .u64 y2,.int .u64 y3]:List Value).length=zW.length/\([.int .u64 y0,.int .u64 y1,.int .u64 y2,.int .u64 y3]:List Value).toArray.all (·.oneCell')=true):=by rw[<-hY];exact⟨zaU _,zaV _,zbH _⟩
 have HTO:Hid (∀ W,Calls Tryz.prog 86 #[.agg LX.toArray] W fun e w'=>e=.returned (.tuple #[.int .i64 (x:Int),.bool true])/\Below W.heap.size W w'):=fun W=>by rw[hLX];exact zpM x hx h6 W
 have HAD:Hid (∀ W,Calls Tryz.prog 87 #[.agg #[.int .u64 y0,.int .u64 y1,.int .u64 y2,.int .u64 y3]] W fun e w'=>e=.returned (.agg LA.toArray)/\Below W.heap.size W w'):=fun W=>by
  have q:=zgA y W
  rw[hY,<-hLA] at q
  exact q
 have HHO:Hid (∀ stk' W,Rn k0 w0 W r T gs n pl C (.iface 46 (.pointer (some ⟨hb,0,none⟩))) av stk' (ss) l nx an ls ags->Calls Tryz.prog 128 #[.pointer (some ⟨hb,0,none⟩),.int .i64 (x:Int),.agg LA.toArray] W fun e w'=>∃ v E LV,LV=wq v/\e=.returned (.tuple #[.agg LV.toArray,.int .i64 E])/\∃ w1,P v E w' w1/\Rn w' w1 w' r T gs n pl C (.iface 46 (.pointer (some ⟨hb,0,none⟩))) av stk' (ss) l nx an ls ags):=fun stk' W hW=>by
  rw[hLA]
  refine Calls.mono (hh stk' W hW) ?_
  rintro e w' ⟨v,E,rfl,q⟩
  exact⟨v,E,_,rfl,rfl,q⟩
 have HLT:Hid (∀ v E LV X w1 stk' W,LV=wq v->Rn X w1 W r T gs n pl C (.iface 46 (.pointer (some ⟨hb,0,none⟩))) av stk' (ss) l nx an ls ags->Calls Tryz.prog 85 #[.pointer (some ⟨r,0,none⟩),.agg LV.toArray,.int .i64 E] W fun e w'=>∃ u,e=.returned (.int .i64 u)/\((E=0/\u=0/\∃ stk',Rn X w1 w' r T gs n pl C (.iface 46 (.pointer (some ⟨hb,0,none⟩))) av stk' (ss++[v]) l nx an ls ags)\/(E≠0/\u=E/\∃ stk',Rn X w1 w' r T gs n pl C (.iface 46 (.pointer (some ⟨hb,0,none⟩))) av stk' (ss) l nx an ls ags))):=fun v E LV X w1 stk' W hLV hW=>by
  rw[hLV]
  by_cases hE:E=0
  ·subst hE
   refine Calls.mono (zvB r T gs n pl C _ av stk' ss l nx an ls ags v X w1 W hW (by omega)) ?_
   rintro e w' ⟨rfl,q⟩
   exact⟨0,rfl,.inl ⟨rfl,rfl,q⟩⟩
  ·refine Calls.mono (zvA r T gs n pl C _ av stk' ss l nx an ls ags v E (by simpa using hE) X w1 W hW) ?_
   rintro e w' ⟨rfl,q⟩
   exact⟨E,rfl,.inr ⟨hE,rfl,_,q⟩⟩
 have HH:Hid (Rn k0 w0 w r T gs n pl C (.iface 46 (.pointer (some ⟨hb,0,none⟩))) av stk (ss++[x]++[y]) l nx an ls ags):=H
 clear H hss hLX hY hLA hx h6 hy0 hy1 hy2 hy3 hh
 go_enter Tryz.func66,Tryz.ntmps66
 go_upto_region 2 with (first
  |(refine zaF 97 rfl (.tmp 1) rfl I rfl ?_;intro X1 q1 q2 q3;have HR:Hid (Rn k0 w0 X1 r T gs n pl C (.iface 46 (.pointer (some ⟨hb,0,none⟩))) av stk (ss++[x]++[y]) l nx an ls ags):=HH.out.keep q2;clear q1 q2 q3;simp only[Act.put,jA,jB,jC])
  |(go_at_call 75;refine Calls.mono (HTT.out X1 HR.out) ?_;rintro e X2 ⟨rfl,stk2,q⟩;have HR2:Hid (Rn k0 w0 X2 r T gs n pl C (.iface 46 (.pointer (some ⟨hb,0,none⟩))) av stk2 (ss) l nx an ls ags):=q;clear q)
  |(refine zaK rfl (by rfl:_=Op.alloc 27) ?_;intro X3 (R3:Hid (Row X3 X2.heap.size zW 27)) (B3:Hid (Below X2.heap.size X2 X3)) (S3:Hid (X3.heap.size=X2.heap.size+1));refine zaK rfl (by rfl:_=Op.alloc 27) ?_;intro X4 (R4:Hid (Row X4 X3.heap.size zW 27)) (B4:Hid (Below X3.heap.size X3 X4)) q3;clear q3;simp only[Act.put,jA,jB,jC])
  |(refine zaD rfl 27 (.tmp 5) (.tmp 12) rfl X2.heap.size LX zW 27 rfl rfl (Row.below R3.out B4.out R3.out.lt) HIX.out.2.1 HIX.out.1 HIX.out.2.2 ?_;intro X5 (E5:Hid (X5=_)) (R5:Hid (Row X5 X2.heap.size LX 27));simp only[Act.put])
  |(refine zaD rfl 27 (.tmp 6) (.tmp 13) rfl X3.heap.size [.int .u64 y0,.int .u64 y1,.int .u64 y2,.int .u64 y3] zW 27 rfl rfl (by rw[E5.out];exact Row.setCells_other R4.out _ _ _ (by have:=S3.out;omega)) HIY.out.2.1 HIY.out.1 HIY.out.2.2 ?_;intro X6 (E6:Hid (X6=_)) (R6:Hid (Row X6 X3.heap.size [.int .u64 y0,.int .u64 y1,.int .u64 y2,.int .u64 y3] 27));simp only[Act.put]))
 have D6:Below X2.heap.size X2 X6:=by
  rw[E6.out,E5.out]
  exact zaC (zaC (B3.out.trans (B4.out.mono (by rw[S3.out];omega))) (Nat.le_refl _) _) (by rw[S3.out];omega) _
 have R56:Hid (Row X6 X2.heap.size LX 27):=by rw[E6.out];exact Row.setCells_other R5.out _ _ _ (by have:=S3.out;omega)
 have HR6:Hid (Rn k0 w0 X6 r T gs n pl C (.iface 46 (.pointer (some ⟨hb,0,none⟩))) av stk2 (ss) l nx an ls ags):=HR2.out.keep D6
 obtain⟨b5,hb5⟩:∃ b,b=X2.heap.size:=⟨_,rfl⟩
 obtain⟨b6,hb6⟩:∃ b,b=X3.heap.size:=⟨_,rfl⟩
 rw[<-hb6] at R6 ⊢
 rw[<-hb5] at R56 ⊢
 clear hb5 hb6 D6 E6 E5 R5 R4 B4 R3 B3 S3 HR2 HR
 go_upto_region 5 with (first
  |(refine zaG rfl 27 (.tmp 5) rfl b5 0 rfl LX _ R56.out.all Tryz.underlying27 rfl HIX.out.1 ?_;simp only[Act.put,jA,jB,jC])
  |(go_at_call 86;refine Calls.mono (HTO.out X6) ?_;rintro e X7 ⟨rfl,q⟩;have HR7:Hid (Rn k0 w0 X7 r T gs n pl C (.iface 46 (.pointer (some ⟨hb,0,none⟩))) av stk2 (ss) l nx an ls ags):=HR6.out.keep q;have R7:Hid (Row X7 b6 [.int .u64 y0,.int .u64 y1,.int .u64 y2,.int .u64 y3] 27):=Row.below R6.out q R6.out.lt;clear q))
 have c51:X7.cell? ⟨r,51,none⟩=some (.iface 46 (.pointer (some ⟨hb,0,none⟩))):=HR7.out.row.cell 51 _ (zbX HR7.out.clen 0)
 have a0:=R7.out.cell 0 _ rfl
 have a1:=R7.out.cell 1 _ rfl
 have a2:=R7.out.cell 2 _ rfl
 have a3:=R7.out.cell 3 _ rfl
 go_region_law (first
  |(refine zdT rfl 87 rfl #[.agg #[.int .u64 y0,.int .u64 y1,.int .u64 y2,.int .u64 y3]] (by go_simp) (Calls.mono (HAD.out _) ?_);rintro e X8 ⟨rfl,q⟩;refine⟨_,rfl,?_⟩;have HR8:Hid (Rn k0 w0 X8 r T gs n pl C (.iface 46 (.pointer (some ⟨hb,0,none⟩))) av stk2 (ss) l nx an ls ags):=(HR7.out.drewN 1).keep q;have d51:X8.cell? ⟨r,51,none⟩=some (.iface 46 (.pointer (some ⟨hb,0,none⟩))):=HR8.out.row.cell 51 _ (zbX HR8.out.clen 0);clear q)
  |(refine zpJ rfl 128 rfl #[.pointer (some ⟨hb,0,none⟩),.int .i64 (x:Int),.agg LA.toArray] (by go_simp;kernel_rfl) (Calls.mono (HHO.out stk2 X8 HR8.out) ?_);rintro e X9 ⟨v,E,LV,qL,rfl,w1,qP,q⟩;refine⟨_,rfl,?_⟩;have HLQ:Hid (LV=wq v):=qL;have HP:Hid (P v E X9 w1):=qP;have HR9:Hid (Rn X9 w1 X9 r T gs n pl C (.iface 46 (.pointer (some ⟨hb,0,none⟩))) av stk2 (ss) l nx an ls ags):=q;clear q qP qL)
  |(refine zdT rfl 85 rfl #[.pointer (some ⟨r,0,none⟩),.agg LV.toArray,.int .i64 E] (by go_simp) (Calls.mono (HLT.out v E LV X9 w1 stk2 X9 HLQ.out HR9.out) ?_);rintro e XA ⟨u,rfl,q⟩;refine⟨_,rfl,?_⟩;have HQ:Hid (((E=0/\u=0/\∃ stk',Rn X9 w1 XA r T gs n pl C (.iface 46 (.pointer (some ⟨hb,0,none⟩))) av stk' (ss++[v]) l nx an ls ags)\/(E≠0/\u=E/\∃ stk',Rn X9 w1 XA r T gs n pl C (.iface 46 (.pointer (some ⟨hb,0,none⟩))) av stk' (ss) l nx an ls ags))):=q;clear q))
 all_goals
  clear c51 d51 a0 a1 a2 a3
  go_wp2
  go_ret
  refine⟨v,E,X9,w1,HP.out,?_⟩
  rcases HQ.out with ⟨h1,rfl,q⟩|⟨h1,rfl,q⟩
  ·exact .inl ⟨h1,rfl,q⟩
  ·exact .inr ⟨h1,rfl,q⟩
theorem do_save (r T gs n:Nat) (pl:Value) (C:List Value) (hb:Nat) (av stk:Value) (ss:List Nat) (l nx:Nat) (an:List Value) (ls:List Ins) (ags:List Nat) (I:List Value) (x y:Nat) (P:Int->World->World->Prop) (k0 w0 w:World) (H:Rn k0 w0 w r T gs n pl C (.iface 46 (.pointer (some ⟨hb,0,none⟩))) av stk (ss++[x]++[y]) l nx an ls ags) (hss:ss.length<=900)
 (hh:∀ stk' W,Rn k0 w0 W r T gs n pl C (.iface 46 (.pointer (some ⟨hb,0,none⟩))) av stk' (ss) l nx an ls ags->Calls Tryz.prog 130 #[.pointer (some ⟨hb,0,none⟩),.agg (wq x).toArray,.agg (wq y).toArray] W fun e w'=>∃ E,e=.returned (.int .i64 E)/\∃ w1,P E w' w1/\Rn w' w1 w' r T gs n pl C (.iface 46 (.pointer (some ⟨hb,0,none⟩))) av stk' (ss) l nx an ls ags):Calls Tryz.prog 65 #[.pointer (some ⟨r,0,none⟩),.agg I.toArray] w fun e w'=>∃ E w1,e=.returned (.int .i64 E)/\P E w' w1/\∃ stk',Rn w' w1 w' r T gs n pl C (.iface 46 (.pointer (some ⟨hb,0,none⟩))) av stk' (ss) l nx an ls ags:=by
 obtain⟨LX,hLX⟩:∃ L,L=wq x:=⟨_,rfl⟩
 obtain⟨LY,hLY⟩:∃ L,L=wq y:=⟨_,rfl⟩
 have HTT:Hid (∀ W,Rn k0 w0 W r T gs n pl C (.iface 46 (.pointer (some ⟨hb,0,none⟩))) av stk (ss++[x]++[y]) l nx an ls ags->Calls Tryz.prog 75 #[.pointer (some ⟨r,0,none⟩)] W fun e w'=>e=.returned (.tuple #[.agg LX.toArray,.agg LY.toArray])/\∃ stk',Rn k0 w0 w' r T gs n pl C (.iface 46 (.pointer (some ⟨hb,0,none⟩))) av stk' (ss) l nx an ls ags):=fun W hW=>by
  rw[hLX,hLY]
  refine Calls.mono (zbF r T gs n pl C _ av stk ss l nx an ls ags x y k0 w0 W hW (by omega)) ?_
  rintro e w' ⟨q1,_,_,stk2,q⟩
  exact⟨q1,stk2,q⟩
 have HHO:Hid (∀ stk' W,Rn k0 w0 W r T gs n pl C (.iface 46 (.pointer (some ⟨hb,0,none⟩))) av stk' (ss) l nx an ls ags->Calls Tryz.prog 130 #[.pointer (some ⟨hb,0,none⟩),.agg LX.toArray,.agg LY.toArray] W fun e w'=>∃ E,e=.returned (.int .i64 E)/\∃ w1,P E w' w1/\Rn w' w1 w' r T gs n pl C (.iface 46 (.pointer (some ⟨hb,0,none⟩))) av stk' (ss) l nx an ls ags):=fun stk' W hW=>by
  rw[hLX,hLY]
  exact hh stk' W hW
 have HH:Hid (Rn k0 w0 w r T gs n pl C (.iface 46 (.pointer (some ⟨hb,0,none⟩))) av stk (ss++[x]++[y]) l nx an ls ags):=H
 clear H hss hLX hLY hh
 go_enter Tryz.func65,Tryz.ntmps65
 go_upto_region 1 with (refine zaF 97 rfl (.tmp 1) rfl I rfl ?_;intro X1 q1 q2 q3;have HR:Hid (Rn k0 w0 X1 r T gs n pl C (.iface 46 (.pointer (some ⟨hb,0,none⟩))) av stk (ss++[x]++[y]) l nx an ls ags):=HH.out.keep q2;clear q1 q2 q3;simp only[Act.put,jA,jB,jC])
 have c51:X1.cell? ⟨r,51,none⟩=some (.iface 46 (.pointer (some ⟨hb,0,none⟩))):=HR.out.row.cell 51 _ (zbX HR.out.clen 0)
 go_region_law (first
  |(refine zdT rfl 75 rfl #[.pointer (some ⟨r,0,none⟩)] (by go_simp) (Calls.mono (HTT.out _ (HR.out.drewN 1)) ?_);rintro e X2 ⟨rfl,stk2,q⟩;refine⟨_,rfl,?_⟩;have HR2:Hid (Rn k0 w0 X2 r T gs n pl C (.iface 46 (.pointer (some ⟨hb,0,none⟩))) av stk2 (ss) l nx an ls ags):=q;have d51:X2.cell? ⟨r,51,none⟩=some (.iface 46 (.pointer (some ⟨hb,0,none⟩))):=q.row.cell 51 _ (zbX q.clen 0);clear q)
  |(refine zpJ rfl 130 rfl #[.pointer (some ⟨hb,0,none⟩),.agg LX.toArray,.agg LY.toArray] (by go_simp;kernel_rfl) (Calls.mono (HHO.out stk2 X2 HR2.out) ?_);rintro e X3 ⟨E,rfl,w1,qP,q⟩;refine⟨_,rfl,?_⟩;have HP:Hid (P E X3 w1):=qP;have HR3:Hid (Rn X3 w1 X3 r T gs n pl C (.iface 46 (.pointer (some ⟨hb,0,none⟩))) av stk2 (ss) l nx an ls ags):=q;clear q qP))
 all_goals
  clear c51 d51
  go_wp2
  go_ret
  exact⟨E,w1,rfl,HP.out,stk2,HR3.out⟩
theorem zwW (args:Array Value) (W:World):(callFunc 64 args).run Tryz.prog W=.ok (.enter 64 args) W:=by
 go_simp
theorem sp_load (r T gs n:Nat) (pl:Value) (C:List Value) (hb:Nat) (av stk:Value) (st:List Nat) (l nx:Nat) (an:List Value) (ls:List Ins) (ags:List Nat) (pi ai ni:Nat) (P:Nat->Int->World->World->Prop) (hl:l<=10000) (hsl:st.length<=64) (hnx:nx<=1024) (k0 w0 w:World) (H:Rn k0 w0 w r T gs n pl C (.iface 46 (.pointer (some ⟨hb,0,none⟩))) av stk st.reverse l nx an ls ags) (hh:∀ stk' W,Rn k0 w0 W r T gs n pl C (.iface 46 (.pointer (some ⟨hb,0,none⟩))) av stk' ((st.drop 1).reverse) (l-200) (nx+1) an ls ags->Calls Tryz.prog 129 #[.pointer (some ⟨hb,0,none⟩),.agg (wq (st.getD 0 0)).toArray] W fun e w'=>∃ v E,e=.returned (.tuple #[.agg (wq v).toArray,.int .i64 E])/\∃ w1,P v E w' w1/\Rn w' w1 w' r T gs n pl C (.iface 46 (.pointer (some ⟨hb,0,none⟩))) av stk' ((st.drop 1).reverse) (l-200) (nx+1) an ls ags):Calls Tryz.prog 70 #[.pointer (some ⟨r,0,none⟩),.agg (ic 24 pi ai ni).toArray] w fun e w'=>∃ v,e=.returned (.int .i64 v)/\(if l<200 then v=102/\∃ stk' ss' l' nx',Rn k0 w0 w' r T gs n pl C (.iface 46 (.pointer (some ⟨hb,0,none⟩))) av stk' ss' l' nx' an ls ags else if st.length<1\/64<st.length-1+1 then v=103/\∃ stk' ss' l' nx',Rn k0 w0 w' r T gs n pl C (.iface 46 (.pointer (some ⟨hb,0,none⟩))) av stk' ss' l' nx' an ls ags else ∃ u E X w1,P u E X w1/\((E=0/\v=0/\∃ stk',Rn X w1 w' r T gs n pl C (.iface 46 (.pointer (some ⟨hb,0,none⟩))) av stk' ((u :: st.drop 1).reverse) (l-200) (nx+1) an ls ags)\/(E≠0/\v=E/\∃ stk',Rn X w1 w' r T gs n pl C (.iface 46 (.pointer (some ⟨hb,0,none⟩))) av stk' ((st.drop 1).reverse) (l-200) (nx+1) an ls ags))):=by
 refine ziJ r T gs n pl C (.iface 46 (.pointer (some ⟨hb,0,none⟩))) av stk st l nx an ls ags 24 pi ai ni _ 0 200 1 1 64 (by decide) rfl 1 1 (fun W=>zaY _ _ 0 200 1 1 rfl rfl _ W) hl (by omega) hsl hnx k0 w0 w H (fun v w'=>∃ u E X w1,P u E X w1/\((E=0/\v=0/\∃ stk',Rn X w1 w' r T gs n pl C (.iface 46 (.pointer (some ⟨hb,0,none⟩))) av stk' ((u :: st.drop 1).reverse) (l-200) (nx+1) an ls ags)\/(E≠0/\v=E/\∃ stk',Rn X w1 w' r T gs n pl C (.iface 46 (.pointer (some ⟨hb,0,none⟩))) av stk' ((st.drop 1).reverse) (l-200) (nx+1) an ls ags))) zwW ?_
 intro hg ht hm W hW
 obtain⟨x,st',rfl⟩:∃ x st',st=x :: st':=by
  match st,ht with
  |x :: st',_=>exact⟨x,st',rfl⟩
 have hsr:st'.reverse.length<=900:=by rw[List.length_reverse];simp only[List.length_cons] at hsl;omega
 simp only[List.reverse_cons] at hW
 refine Calls.mono (do_load r T gs n pl C hb av stk st'.reverse _ _ an ls ags _ x P k0 w0 W hW hsr hh) ?_
 rintro e w' ⟨u,E,X,w1,hP,q⟩
 rcases q with ⟨h1,rfl,stk',q⟩|⟨h1,rfl,stk',q⟩
 ·exact⟨0,rfl,⟨u,E,X,w1,hP,.inl ⟨h1,rfl,stk',by rw[List.reverse_cons];exact q⟩⟩⟩
 ·exact⟨E,rfl,⟨u,E,X,w1,hP,.inr ⟨h1,rfl,stk',q⟩⟩⟩
theorem zwZ (args:Array Value) (W:World):(callFunc 65 args).run Tryz.prog W=.ok (.enter 65 args) W:=by
 go_simp
theorem sp_save (r T gs n:Nat) (pl:Value) (C:List Value) (hb:Nat) (av stk:Value) (st:List Nat) (l nx:Nat) (an:List Value) (ls:List Ins) (ags:List Nat) (pi ai ni:Nat) (P:Int->World->World->Prop) (hl:l<=10000) (hsl:st.length<=64) (hnx:nx<=1024) (k0 w0 w:World) (H:Rn k0 w0 w r T gs n pl C (.iface 46 (.pointer (some ⟨hb,0,none⟩))) av stk st.reverse l nx an ls ags) (hh:∀ stk' W,Rn k0 w0 W r T gs n pl C (.iface 46 (.pointer (some ⟨hb,0,none⟩))) av stk' ((st.drop 2).reverse) (l-200) (nx+1) an ls ags->Calls Tryz.prog 130 #[.pointer (some ⟨hb,0,none⟩),.agg (wq (st.getD 1 0)).toArray,.agg (wq (st.getD 0 0)).toArray] W fun e w'=>∃ E,e=.returned (.int .i64 E)/\∃ w1,P E w' w1/\Rn w' w1 w' r T gs n pl C (.iface 46 (.pointer (some ⟨hb,0,none⟩))) av stk' ((st.drop 2).reverse) (l-200) (nx+1) an ls ags):Calls Tryz.prog 70 #[.pointer (some ⟨r,0,none⟩),.agg (ic 25 pi ai ni).toArray] w fun e w'=>∃ v,e=.returned (.int .i64 v)/\(if l<200 then v=102/\∃ stk' ss' l' nx',Rn k0 w0 w' r T gs n pl C (.iface 46 (.pointer (some ⟨hb,0,none⟩))) av stk' ss' l' nx' an ls ags else if st.length<2\/64<st.length-2+0 then v=103/\∃ stk' ss' l' nx',Rn k0 w0 w' r T gs n pl C (.iface 46 (.pointer (some ⟨hb,0,none⟩))) av stk' ss' l' nx' an ls ags else ∃ w1,P v w' w1/\∃ stk',Rn w' w1 w' r T gs n pl C (.iface 46 (.pointer (some ⟨hb,0,none⟩))) av stk' ((st.drop 2).reverse) (l-200) (nx+1) an ls ags):=by
 refine ziJ r T gs n pl C (.iface 46 (.pointer (some ⟨hb,0,none⟩))) av stk st l nx an ls ags 25 pi ai ni _ 0 200 2 0 65 (by decide) rfl 2 0 (fun W=>zaY _ _ 0 200 2 0 rfl rfl _ W) hl (by omega) hsl hnx k0 w0 w H (fun v w'=>∃ w1,P v w' w1/\∃ stk',Rn w' w1 w' r T gs n pl C (.iface 46 (.pointer (some ⟨hb,0,none⟩))) av stk' ((st.drop 2).reverse) (l-200) (nx+1) an ls ags) zwZ ?_
 intro hg ht hm W hW
 obtain⟨y,x,st',rfl⟩:∃ y x st',st=y :: x :: st':=by
  match st,ht with
  |y :: x :: st',_=>exact⟨y,x,st',rfl⟩
 have hsr:st'.reverse.length<=900:=by rw[List.length_reverse];simp only[List.length_cons] at hsl;omega
 simp only[List.reverse_cons] at hW
 refine Calls.mono (do_save r T gs n pl C hb av stk st'.reverse _ _ an ls ags _ x y P k0 w0 W hW hsr hh) ?_
 rintro e w' ⟨E,w1,rfl,hP,stk',q⟩
 exact⟨E,rfl,w1,hP,stk',q⟩
theorem zwT (args:Array Value) (W:World):(callFunc 66 args).run Tryz.prog W=.ok (.enter 66 args) W:=by
 go_simp
theorem sp_have (r T gs n:Nat) (pl:Value) (C:List Value) (hb:Nat) (av stk:Value) (st:List Nat) (l nx:Nat) (an:List Value) (ls:List Ins) (ags:List Nat) (pi ai ni:Nat) (P:Nat->Int->World->World->Prop) (hst:∀ a ∈ st,a<2 ^ 256) (hl:l<=10000) (hsl:st.length<=64) (hnx:nx<=1024) (k0 w0 w:World) (H:Rn k0 w0 w r T gs n pl C (.iface 46 (.pointer (some ⟨hb,0,none⟩))) av stk st.reverse l nx an ls ags) (hh:∀ stk' W,Rn k0 w0 W r T gs n pl C (.iface 46 (.pointer (some ⟨hb,0,none⟩))) av stk' ((st.drop 2).reverse) (l-200) (nx+1) an ls ags->Calls Tryz.prog 128 #[.pointer (some ⟨hb,0,none⟩),.int .i64 ((st.getD 1 0:Nat):Int),.agg (adr (st.getD 0 0)).toArray] W fun e w'=>∃ v E,e=.returned (.tuple #[.agg (wq v).toArray,.int .i64 E])/\∃ w1,P v E w' w1/\Rn w' w1 w' r T gs n pl C (.iface 46 (.pointer (some ⟨hb,0,none⟩))) av stk' ((st.drop 2).reverse) (l-200) (nx+1) an ls ags):Calls Tryz.prog 70 #[.pointer (some ⟨r,0,none⟩),.agg (ic 26 pi ai ni).toArray] w fun e w'=>∃ v,e=.returned (.int .i64 v)/\(if l<200 then v=102/\∃ stk' ss' l' nx',Rn k0 w0 w' r T gs n pl C (.iface 46 (.pointer (some ⟨hb,0,none⟩))) av stk' ss' l' nx' an ls ags else if st.length<2\/64<st.length-2+1 then v=103/\∃ stk' ss' l' nx',Rn k0 w0 w' r T gs n pl C (.iface 46 (.pointer (some ⟨hb,0,none⟩))) av stk' ss' l' nx' an ls ags else (¬ st.getD 1 0<64/\v=104/\∃ stk',Rn k0 w0 w' r T gs n pl C (.iface 46 (.pointer (some ⟨hb,0,none⟩))) av stk' ((st.drop 2).reverse) (l-200) (nx+1) an ls ags)\/(st.getD 1 0<64/\∃ u E X w1,P u E X w1/\((E=0/\v=0/\∃ stk',Rn X w1 w' r T gs n pl C (.iface 46 (.pointer (some ⟨hb,0,none⟩))) av stk' ((u :: st.drop 2).reverse) (l-200) (nx+1) an ls ags)\/(E≠0/\v=E/\∃ stk',Rn X w1 w' r T gs n pl C (.iface 46 (.pointer (some ⟨hb,0,none⟩))) av stk' ((st.drop 2).reverse) (l-200) (nx+1) an ls ags)))):=by
 refine ziJ r T gs n pl C (.iface 46 (.pointer (some ⟨hb,0,none⟩))) av stk st l nx an ls ags 26 pi ai ni _ 0 200 2 1 66 (by decide) rfl 2 1 (fun W=>zaY _ _ 0 200 2 1 rfl rfl _ W) hl (by omega) hsl hnx k0 w0 w H (fun v w'=>(¬ st.getD 1 0<64/\v=104/\∃ stk',Rn k0 w0 w' r T gs n pl C (.iface 46 (.pointer (some ⟨hb,0,none⟩))) av stk' ((st.drop 2).reverse) (l-200) (nx+1) an ls ags)\/(st.getD 1 0<64/\∃ u E X w1,P u E X w1/\((E=0/\v=0/\∃ stk',Rn X w1 w' r T gs n pl C (.iface 46 (.pointer (some ⟨hb,0,none⟩))) av stk' ((u :: st.drop 2).reverse) (l-200) (nx+1) an ls ags)\/(E≠0/\v=E/\∃ stk',Rn X w1 w' r T gs n pl C (.iface 46 (.pointer (some ⟨hb,0,none⟩))) av stk' ((st.drop 2).reverse) (l-200) (nx+1) an ls ags)))) zwT ?_
 intro hg ht hm W hW
 obtain⟨y,x,st',rfl⟩:∃ y x st',st=y :: x :: st':=by
  match st,ht with
  |y :: x :: st',_=>exact⟨y,x,st',rfl⟩
 have hsr:st'.reverse.length<=900:=by rw[List.length_reverse];simp only[List.length_cons] at hsl;omega
 simp only[List.reverse_cons] at hW
 have hx:x<2 ^ 256:=hst x (by simp)
 by_cases h6:x<64
 ·refine Calls.mono (do_have r T gs n pl C hb av stk st'.reverse _ _ an ls ags _ x y hx h6 P k0 w0 W hW hsr hh) ?_
  rintro e w' ⟨u,E,X,w1,hP,q⟩
  rcases q with ⟨h1,rfl,stk',q⟩|⟨h1,rfl,stk',q⟩
  ·exact⟨0,rfl,.inr ⟨h6,u,E,X,w1,hP,.inl ⟨h1,rfl,stk',by rw[List.reverse_cons];exact q⟩⟩⟩
  ·exact⟨E,rfl,.inr ⟨h6,u,E,X,w1,hP,.inr ⟨h1,rfl,stk',q⟩⟩⟩
 ·refine Calls.mono (zqI r T gs n pl C hb av stk st'.reverse _ _ an ls ags _ x y hx h6 k0 w0 W hW hsr) ?_
  rintro e w' ⟨rfl,stk',q⟩
  exact⟨104,rfl,.inl ⟨h6,rfl,stk',q⟩⟩
theorem zxB (args:Array Value) (W:World):(callFunc 67 args).run Tryz.prog W=.ok (.enter 67 args) W:=by
 go_simp
theorem sp_send (r T gs n:Nat) (pl:Value) (C:List Value) (hb:Nat) (av stk:Value) (st:List Nat) (l nx:Nat) (an:List Value) (ls:List Ins) (ags:List Nat) (pi ai ni:Nat) (P:Int->World->World->Prop) (hst:∀ a ∈ st,a<2 ^ 256) (hl:l<=10000) (hsl:st.length<=64) (hnx:nx<=1024) (k0 w0 w:World) (H:Rn k0 w0 w r T gs n pl C (.iface 46 (.pointer (some ⟨hb,0,none⟩))) av stk st.reverse l nx an ls ags) (hh:∀ stk' W,Rn k0 w0 W r T gs n pl C (.iface 46 (.pointer (some ⟨hb,0,none⟩))) av stk' ((st.drop 3).reverse) (l-500) (nx+1) an ls ags->Calls Tryz.prog 131 #[.pointer (some ⟨hb,0,none⟩),.int .i64 ((st.getD 2 0:Nat):Int),.agg (adr (st.getD 1 0)).toArray,.agg (wq (st.getD 0 0)).toArray] W fun e w'=>∃ E,e=.returned (.int .i64 E)/\∃ w1,P E w' w1/\Rn w' w1 w' r T gs n pl C (.iface 46 (.pointer (some ⟨hb,0,none⟩))) av stk' ((st.drop 3).reverse) (l-500) (nx+1) an ls ags):Calls Tryz.prog 70 #[.pointer (some ⟨r,0,none⟩),.agg (ic 27 pi ai ni).toArray] w fun e w'=>∃ v,e=.returned (.int .i64 v)/\(if l<500 then v=102/\∃ stk' ss' l' nx',Rn k0 w0 w' r T gs n pl C (.iface 46 (.pointer (some ⟨hb,0,none⟩))) av stk' ss' l' nx' an ls ags else if st.length<3\/64<st.length-3+0 then v=103/\∃ stk' ss' l' nx',Rn k0 w0 w' r T gs n pl C (.iface 46 (.pointer (some ⟨hb,0,none⟩))) av stk' ss' l' nx' an ls ags else (¬ st.getD 2 0<64/\v=104/\∃ stk',Rn k0 w0 w' r T gs n pl C (.iface 46 (.pointer (some ⟨hb,0,none⟩))) av stk' ((st.drop 3).reverse) (l-500) (nx+1) an ls ags)\/(st.getD 2 0<64/\∃ w1,P v w' w1/\∃ stk',Rn w' w1 w' r T gs n pl C (.iface 46 (.pointer (some ⟨hb,0,none⟩))) av stk' ((st.drop 3).reverse) (l-500) (nx+1) an ls ags)):=by
 refine ziJ r T gs n pl C (.iface 46 (.pointer (some ⟨hb,0,none⟩))) av stk st l nx an ls ags 27 pi ai ni _ 0 500 3 0 67 (by decide) rfl 3 0 (fun W=>zaY _ _ 0 500 3 0 rfl rfl _ W) hl (by omega) hsl hnx k0 w0 w H (fun v w'=>(¬ st.getD 2 0<64/\v=104/\∃ stk',Rn k0 w0 w' r T gs n pl C (.iface 46 (.pointer (some ⟨hb,0,none⟩))) av stk' ((st.drop 3).reverse) (l-500) (nx+1) an ls ags)\/(st.getD 2 0<64/\∃ w1,P v w' w1/\∃ stk',Rn w' w1 w' r T gs n pl C (.iface 46 (.pointer (some ⟨hb,0,none⟩))) av stk' ((st.drop 3).reverse) (l-500) (nx+1) an ls ags)) zxB ?_
 intro hg ht hm W hW
 obtain⟨z,y,x,st',rfl⟩:∃ z y x st',st=z :: y :: x :: st':=by
  match st,ht with
  |z :: y :: x :: st',_=>exact⟨z,y,x,st',rfl⟩
 have hsr:st'.reverse.length<=900:=by rw[List.length_reverse];simp only[List.length_cons] at hsl;omega
 simp only[List.reverse_cons] at hW
 have hx:x<2 ^ 256:=hst x (by simp)
 by_cases h6:x<64
 ·refine Calls.mono (do_send r T gs n pl C hb av stk st'.reverse _ _ an ls ags _ x y z hx h6 P k0 w0 W hW hsr hh) ?_
  rintro e w' ⟨E,w1,rfl,hP,stk',q⟩
  exact⟨E,rfl,.inr ⟨h6,w1,hP,stk',q⟩⟩
 ·refine Calls.mono (zqJ r T gs n pl C hb av stk st'.reverse _ _ an ls ags _ x y z hx h6 k0 w0 W hW hsr) ?_
  rintro e w' ⟨rfl,stk',q⟩
  exact⟨104,rfl,.inl ⟨h6,rfl,stk',q⟩⟩
theorem zrZ (w:World) (m:Nat) (hm:m<=w.heap.size):∃ w1:World,w1.heap.size=m/\Below w1.heap.size w1 w/\∀ i,i<m->w1.heap[i]?=w.heap[i]?:=by
 have hs:(w.heap.extract 0 m).size=m:=by rw[Array.size_extract];omega
 have hb:∀ i,i<m->(w.heap.extract 0 m)[i]?=w.heap[i]?:=fun i hi=>by
  rw[Array.getElem?_extract]
  simp only[Nat.zero_add]
  rw[if_pos (by omega)]
 refine⟨{ w with heap:=w.heap.extract 0 m },hs,?_,hb⟩
 show Below (w.heap.extract 0 m).size _ _
 rw[hs]
 exact⟨rfl,rfl,rfl,by show (w.heap.extract 0 m).size<=_;omega,fun i hi=>(hb i hi).symm⟩
def Lr (wS:World) (hb r T gs n:Nat) (pl:Value) (C:List Value) (av:Value) (ls:List Ins) (ags:List Nat) (rv iv:Value) (rs:List (Nat × Int)) (inn:List (BitVec 8)) (w:World) (stk:Value) (ss:List Nat) (l nx:Nat) (an:List Value) (qv:Value) (qs:List (List Value)):Prop:=
 ∃ w1:World,w1.heap.size=wS.heap.size/\Gro (·=hb) wS w1/\Rn w w1 w r T gs n pl C (.iface 46 (.pointer (some ⟨hb,0,none⟩))) av stk (ss) (l) (nx) an ls ags/\Hst w hb rv qv iv rs qs inn/\(∀ g,qv.ownBlock=some g->wS.heap.size<=g)
def Kr (w w':World):Prop:=∀ (b:Nat) (cs:List Value) (t:TypeId),t≠79->t≠27->t≠tHo->t≠tAk->Row w b cs t->Row w' b cs t
theorem kh_ne {t:TypeId} (h:t=tHo\/t=tAk\/t=tYr\/t=5):t≠79/\t≠27:=by
 rcases h with h|h|h|h <;> rw[h] <;> exact⟨by decide,by decide⟩
section
variable {wS:World} {hb r T gs n:Nat} {pl:Value} {C:List Value} {av:Value} {ls:List Ins} {ags:List Nat} {rv iv:Value} {rs:List (Nat × Int)} {inn:List (BitVec 8)} {w0 w W W':World} {stk:Value} {ss:List Nat} {l nx:Nat} {an:List Value} {qv:Value} {qs:List (List Value)} {q:List Value}
theorem Rn.kh (H:Rn w w0 W r T gs n pl C (.iface 46 (.pointer (some ⟨hb,0,none⟩))) av stk (ss) (l) (nx) an ls ags) (hbe:Below w0.heap.size w0 w) (hle:hb<=w0.heap.size):Kh hb w W:=⟨fun _ _ _ ht rr=>H.kp (kh_ne ht).1 (kh_ne ht).2 rr,fun b h1 _=>(H.be.block b (Nat.lt_of_lt_of_le h1 hle)).trans (hbe.block b (Nat.lt_of_lt_of_le h1 hle)).symm⟩
theorem Rn.host (H:Rn w w0 W r T gs n pl C (.iface 46 (.pointer (some ⟨hb,0,none⟩))) av stk (ss) (l) (nx) an ls ags) (hH:Hst W hb rv qv iv rs qs inn) (hN:NxP W hb rv qv iv rs qs inn q W') (a1:w0.heap.size=wS.heap.size) (a2:Gro (·=hb) wS w0) (a5:∀ g,qv.ownBlock=some g->wS.heap.size<=g) :
 ∃ w1:World,w1.heap.size=wS.heap.size/\Gro (·=hb) wS w1/\Rn W' w1 W' r T gs n pl C (.iface 46 (.pointer (some ⟨hb,0,none⟩))) av stk (ss) (l) (nx) an ls ags:=by
 have hN2:=hN
 obtain⟨qv',_,k,_⟩:=hN2
 obtain⟨w1,h1,h2,h3⟩:=zrZ W' w0.heap.size (Nat.le_trans H.be.size k.size)
 refine⟨w1,h1.trans a1,⟨?_,?_,?_,?_,fun i hi hne=>?_⟩,hN.row hH (by decide) (by decide) H.row,H.clen,H.alen,Lw.rows H.st fun b cs r=>hN.row hH (by decide) (by decide) r,hN.row hH (by decide) (by decide) H.tab,Lw.rows H.prg fun b cs r=>hN.row hH (by decide) (by decide) r,hN.row hH (by decide) (by decide) H.sta,H.cargs,Lw.rows H.arg fun b cs r=>hN.row hH (by decide) (by decide) r,H.apart,h2,by rw[h1];exact H.rlo,by rw[h1];exact H.slo,fun _ _ q=>q⟩
 ·exact h2.os.symm.trans (k.os.trans (H.be.os.trans a2.os))
 ·exact h2.tape.symm.trans (k.tape.trans (H.be.tape.trans a2.tape))
 ·exact h2.output.symm.trans (k.output.trans (H.be.output.trans a2.output))
 ·rw[h1,a1];exact Nat.le_refl _
 ·have hi0:i<w0.heap.size:=by rw[a1];exact hi
  rw[h3 i hi0,k.block i (Nat.lt_of_lt_of_le hi0 H.be.size) (fun e=>by
   rcases e with e|e
   ·exact hne e
   ·have:=a5 i e;omega),H.be.block i hi0,a2.block i hi hne]
end
def UP (wS:World) (hb r T gs n:Nat) (pl:Value) (C:List Value) (av:Value) (ls:List Ins) (ags:List Nat) (rv iv:Value) (rs:List (Nat × Int)) (inn:List (BitVec 8)) (cl:Cl) (x:Ins) (st:List Nat) (l nx:Nat) (an:List Value) (qs:List (List Value)) (v:Int) (w':World):Prop:=
 match stU cl ags ls rs x st l nx qs.length with
 |(.error E,q)=>v=E/\∃ stk' ss' l' nx' an' qv',Lr wS hb r T gs n pl C av ls ags rv iv rs inn w' stk' (ss') (l') (nx') an' qv' (qs++q)
 |(.ok (st',nx'),q)=>v=0/\∃ stk' qv',Lr wS hb r T gs n pl C av ls ags rv iv rs inn w' stk' (st'.reverse) (l-gT x.c) (nx') (if x.c=1 then wq (st.getD 0 0) else an) qv' (qs++q)
section
variable {wS:World} {hb r T gs n:Nat} {pl:Value} {C:List Value} {av:Value} {ls:List Ins} {ags:List Nat} {rv iv:Value} {rs:List (Nat × Int)} {inn:List (BitVec 8)} {cl:Cl}
theorem zfE {w w1 w':World} {stk:Value} {ss:List Nat} {l nx:Nat} {an:List Value} (H:Rn w w1 w' r T gs n pl C (.iface 46 (.pointer (some ⟨hb,0,none⟩))) av stk (ss) (l) (nx) an ls ags):Kr w w':=fun _ _ _ h1 h2 _ _ rr=>H.kp h1 h2 rr
theorem step_u1 (hlb:hb<wS.heap.size) (_hcl:cl.In C) (_h8:ags.length<=8) (x:Ins) (_h4:x.c=4->x.n<=15) (_h5:x.c=5->1<=x.n/\x.n<=15) (_hj:x.c=14\/x.c=15->x.n<n/\∃ m,stf ls x.n=m+1/\m<=100000) (_h16:x.c=16->x.n<=1000) (st:List Nat) (l nx:Nat) (an:List Value) (stk qv:Value) (qs:List (List Value)) (_hst:∀ a ∈ st,a<2 ^ 256) (hl:l<=10000) (hsl:st.length<=64) (hnx:nx<=1024) (_hq:qs.length<=1000) (w:World) (H:Lr wS hb r T gs n pl C av ls ags rv iv rs inn w stk (st.reverse) (l) (nx) an qv (qs)) (hc1:x.c=1):Calls Tryz.prog 70 #[.pointer (some ⟨r,0,none⟩),.agg (ic x.c x.p x.a x.n).toArray] w fun e w'=>∃ v,e=.returned (.int .i64 v)/\Kr w w'/\UP wS hb r T gs n pl C av ls ags rv iv rs inn cl x st l nx an qs v w':=by
 obtain⟨w1,a1,a2,a3,a4,a5⟩:=H
 rw[hc1]
 refine Calls.mono (sp_done r T gs n pl C (.iface 46 (.pointer (some ⟨hb,0,none⟩))) av stk st l nx an ls ags x.p x.a x.n hl hsl hnx w w1 w a3) ?_
 rintro e w' ⟨v,rfl,q⟩
 have eT:tT x.c x.n=1:=by rw[hc1];rfl
 have eL:lT x.c x.n=0:=by rw[hc1];rfl
 have eG:gT x.c=1:=by rw[hc1];rfl
 have eS:stU cl ags ls rs x st l nx qs.length=if l<1 then (.error 102,[]) else if st.length<1\/64<st.length-1+0 then (.error 103,[]) else (.ok (st.drop 1,nx+1),[]):=by
  unfold stU
  rw[eG,eT,eL,if_pos hc1]
 split at q
 ·rename_i h1
  rw[if_pos h1] at eS
  obtain⟨rfl,stk',ss',l',nx',q⟩:=q
  refine⟨102,rfl,zfE q,?_⟩
  unfold UP
  rw[eS]
  exact⟨rfl,stk',ss',l',nx',an,qv,w1,a1,a2,q.rebase,by rw[List.append_nil];exact a4.kh (q.kh a3.be (by rw[a1];exact Nat.le_of_lt hlb)),a5⟩
 rename_i h1
 rw[if_neg h1] at eS
 split at q
 ·rename_i h2
  rw[if_pos h2] at eS
  obtain⟨rfl,stk',ss',l',nx',q⟩:=q
  refine⟨103,rfl,zfE q,?_⟩
  unfold UP
  rw[eS]
  exact⟨rfl,stk',ss',l',nx',an,qv,w1,a1,a2,q.rebase,by rw[List.append_nil];exact a4.kh (q.kh a3.be (by rw[a1];exact Nat.le_of_lt hlb)),a5⟩
 rename_i h2
 rw[if_neg h2] at eS
 obtain⟨rfl,stk',q⟩:=q
 refine⟨0,rfl,zfE q,?_⟩
 unfold UP
 rw[eS]
 refine⟨rfl,stk',qv,w1,a1,a2,?_,by rw[List.append_nil];exact a4.kh (q.kh a3.be (by rw[a1];exact Nat.le_of_lt hlb)),a5⟩
 rw[if_pos hc1,eG]
 exact q.rebase
theorem zzV (hlb:hb<wS.heap.size) (hcl:cl.In C) (h8:ags.length<=8) (x:Ins) (h4:x.c=4->x.n<=15) (h5:x.c=5->1<=x.n/\x.n<=15) (hj:x.c=14\/x.c=15->x.n<n/\∃ m,stf ls x.n=m+1/\m<=100000) (h16:x.c=16->x.n<=1000) (st:List Nat) (l nx:Nat) (an:List Value) (stk qv:Value) (qs:List (List Value)) (hst:∀ a ∈ st,a<2 ^ 256) (hl:l<=10000) (hsl:st.length<=64) (hnx:nx<=1024) (_hq:qs.length<=1000) (w:World) (H:Lr wS hb r T gs n pl C av ls ags rv iv rs inn w stk (st.reverse) (l) (nx) an qv (qs)) (hc:x.c<24) (hc1:x.c≠1):Calls Tryz.prog 70 #[.pointer (some ⟨r,0,none⟩),.agg (ic x.c x.p x.a x.n).toArray] w fun e w'=>∃ v,e=.returned (.int .i64 v)/\Kr w w'/\UP wS hb r T gs n pl C av ls ags rv iv rs inn cl x st l nx an qs v w':=by
 obtain⟨w1,a1,a2,a3,a4,a5⟩:=H
 refine Calls.mono (sp_any r T gs n pl C (.iface 46 (.pointer (some ⟨hb,0,none⟩))) av stk st l nx an ls ags cl hcl x.c x.p x.a x.n hc hc1 h4 h5 hj h16 h8 hst hl hsl hnx w w1 w a3) ?_
 rintro e w' ⟨v,rfl,q⟩
 have eS:stU cl ags ls rs x st l nx qs.length=if l<gT x.c then (.error 102,[]) else if st.length<tT x.c x.n\/64<st.length-tT x.c x.n+lT x.c x.n then (.error 103,[]) else (exi cl ags ls x.c x.a x.n st (l-gT x.c) (nx+1),[]):=by
  unfold stU
  rw[if_neg hc1,if_pos hc]
 unfold StP at q
 split at q
 ·rename_i h1
  rw[if_pos h1] at eS
  obtain⟨rfl,stk',ss',l',nx',q⟩:=q
  refine⟨102,rfl,zfE q,?_⟩
  unfold UP
  rw[eS]
  exact⟨rfl,stk',ss',l',nx',an,qv,w1,a1,a2,q.rebase,by rw[List.append_nil];exact a4.kh (q.kh a3.be (by rw[a1];exact Nat.le_of_lt hlb)),a5⟩
 rename_i h1
 rw[if_neg h1] at eS
 split at q
 ·rename_i h2
  rw[if_pos h2] at eS
  obtain⟨rfl,stk',ss',l',nx',q⟩:=q
  refine⟨103,rfl,zfE q,?_⟩
  unfold UP
  rw[eS]
  exact⟨rfl,stk',ss',l',nx',an,qv,w1,a1,a2,q.rebase,by rw[List.append_nil];exact a4.kh (q.kh a3.be (by rw[a1];exact Nat.le_of_lt hlb)),a5⟩
 rename_i h2
 rw[if_neg h2] at eS
 cases hx:exi cl ags ls x.c x.a x.n st (l-gT x.c) (nx+1) with
 |error E=>
  rw[hx] at q eS
  obtain⟨rfl,stk',ss',nx',q⟩:=q
  refine⟨v,rfl,zfE q,?_⟩
  unfold UP
  rw[eS]
  exact⟨rfl,stk',ss',_,nx',an,qv,w1,a1,a2,q.rebase,by rw[List.append_nil];exact a4.kh (q.kh a3.be (by rw[a1];exact Nat.le_of_lt hlb)),a5⟩
 |ok y=>
  obtain⟨st',nx'⟩:=y
  rw[hx] at q eS
  obtain⟨rfl,stk',q⟩:=q
  refine⟨0,rfl,zfE q,?_⟩
  unfold UP
  rw[eS]
  refine⟨rfl,stk',qv,w1,a1,a2,?_,by rw[List.append_nil];exact a4.kh (q.kh a3.be (by rw[a1];exact Nat.le_of_lt hlb)),a5⟩
  rw[if_neg hc1]
  exact q.rebase
theorem zzR (HN:zcN inn) (hlb:hb<wS.heap.size) (_hcl:cl.In C) (_h8:ags.length<=8) (x:Ins) (_h4:x.c=4->x.n<=15) (_h5:x.c=5->1<=x.n/\x.n<=15) (_hj:x.c=14\/x.c=15->x.n<n/\∃ m,stf ls x.n=m+1/\m<=100000) (_h16:x.c=16->x.n<=1000) (st:List Nat) (l nx:Nat) (an:List Value) (stk qv:Value) (qs:List (List Value)) (_hst:∀ a ∈ st,a<2 ^ 256) (hl:l<=10000) (hsl:st.length<=64) (hnx:nx<=1024) (hq:qs.length<=1000) (w:World) (H:Lr wS hb r T gs n pl C av ls ags rv iv rs inn w stk (st.reverse) (l) (nx) an qv (qs)) (hc:x.c=24):Calls Tryz.prog 70 #[.pointer (some ⟨r,0,none⟩),.agg (ic x.c x.p x.a x.n).toArray] w fun e w'=>∃ v,e=.returned (.int .i64 v)/\Kr w w'/\UP wS hb r T gs n pl C av ls ags rv iv rs inn cl x st l nx an qs v w':=by
 obtain⟨w1,a1,a2,a3,a4,a5⟩:=H
 have eT:tT x.c x.n=1:=by rw[hc];rfl
 have eL:lT x.c x.n=1:=by rw[hc];rfl
 have eG:gT x.c=200:=by rw[hc];rfl
 have hne:¬ x.c=1:=by omega
 have eS:stU cl ags ls rs x st l nx qs.length=if l<200 then (.error 102,[]) else if st.length<1\/64<st.length-1+1 then (.error 103,[]) else exh rs 24 st (nx+1) qs.length:=by
  unfold stU
  rw[eG,eT,eL,if_neg hne,if_neg (by omega:¬ x.c<24),hc]
 rw[hc]
 refine Calls.mono (sp_load r T gs n pl C hb av stk st l nx an ls ags x.p x.a x.n (fun u E X w2=>(u,E)=rs.getD qs.length (0,0)/\w2.heap.size=wS.heap.size/\Gro (·=hb) wS w2/\(Kr w X/\Below w2.heap.size w2 X)/\∃ qv',Hst X hb rv qv' iv rs (qs++[aq 1 (st.getD 0 0) 0 0 z20]) inn/\(∀ g,qv'.ownBlock=some g->wS.heap.size<=g)) hl hsl hnx w w1 w a3 ?_) ?_
 ·intro stk' W hW
  have hH:=a4.kh (hW.kh a3.be (by rw[a1];exact Nat.le_of_lt hlb))
  refine Calls.mono (load_n HN hb rv qv iv rs qs (st.getD 0 0) hq W hH) ?_
  rintro e w' ⟨rfl,hN⟩
  obtain⟨w2,b1,b2,b3⟩:=hW.host hH hN a1 a2 a5
  have hN2:=hN
  obtain⟨qv',c1,c2,c3⟩:=hN2
  refine⟨_,_,rfl,w2,⟨rfl,b1,b2,⟨fun b cs t h1 h2 h3 h4 rr=>hN.row hH h3 h4 (hW.kp h1 h2 rr),b3.be⟩,qv',c1,fun g e=>?_⟩,b3⟩
  rcases c3 g e with z|z
  ·exact a5 g z
  ·have:=hW.be.size;omega
 rintro e w' ⟨v,rfl,q⟩
 split at q
 ·rename_i h1
  rw[if_pos h1] at eS
  obtain⟨rfl,stk',ss',l',nx',q⟩:=q
  refine⟨102,rfl,zfE q,?_⟩
  unfold UP
  rw[eS]
  exact⟨rfl,stk',ss',l',nx',an,qv,w1,a1,a2,q.rebase,by rw[List.append_nil];exact a4.kh (q.kh a3.be (by rw[a1];exact Nat.le_of_lt hlb)),a5⟩
 rename_i h1
 rw[if_neg h1] at eS
 split at q
 ·rename_i h2
  rw[if_pos h2] at eS
  obtain⟨rfl,stk',ss',l',nx',q⟩:=q
  refine⟨103,rfl,zfE q,?_⟩
  unfold UP
  rw[eS]
  exact⟨rfl,stk',ss',l',nx',an,qv,w1,a1,a2,q.rebase,by rw[List.append_nil];exact a4.kh (q.kh a3.be (by rw[a1];exact Nat.le_of_lt hlb)),a5⟩
 rename_i h2
 rw[if_neg h2] at eS
 unfold exh at eS
 rw[if_pos rfl] at eS
 obtain⟨u,E,X,w2,⟨p1,p2,p3,p4,qv',p5,p6⟩,q⟩:=q
 rw[<-p1] at eS
 have kr:∀ {ss:List Nat} {stk':Value},Rn X w2 w' r T gs n pl C (.iface 46 (.pointer (some ⟨hb,0,none⟩))) av stk' (ss) (l-200) (nx+1) an ls ags->Kr w w':=fun q b cs t h1 h2 h3 h4 rr=>q.kp h1 h2 (p4.1 b cs t h1 h2 h3 h4 rr)
 rcases q with ⟨hE,rfl,stk',q⟩|⟨hE,rfl,stk',q⟩
 ·simp only[hE,if_true] at eS
  refine⟨0,rfl,kr q,?_⟩
  unfold UP
  rw[eS]
  refine⟨rfl,stk',qv',w2,p2,p3,?_,p5.kh (q.kh p4.2 (by rw[p2];exact Nat.le_of_lt hlb)),p6⟩
  rw[if_neg hne,eG]
  exact q.rebase
 ·simp only[hE,if_false] at eS
  refine⟨v,rfl,kr q,?_⟩
  unfold UP
  rw[eS]
  exact⟨rfl,stk',_,_,_,an,qv',w2,p2,p3,q.rebase,p5.kh (q.kh p4.2 (by rw[p2];exact Nat.le_of_lt hlb)),p6⟩
theorem zzS (HN:zcN inn) (hlb:hb<wS.heap.size) (_hcl:cl.In C) (_h8:ags.length<=8) (x:Ins) (_h4:x.c=4->x.n<=15) (_h5:x.c=5->1<=x.n/\x.n<=15) (_hj:x.c=14\/x.c=15->x.n<n/\∃ m,stf ls x.n=m+1/\m<=100000) (_h16:x.c=16->x.n<=1000) (st:List Nat) (l nx:Nat) (an:List Value) (stk qv:Value) (qs:List (List Value)) (_hst:∀ a ∈ st,a<2 ^ 256) (hl:l<=10000) (hsl:st.length<=64) (hnx:nx<=1024) (hq:qs.length<=1000) (w:World) (H:Lr wS hb r T gs n pl C av ls ags rv iv rs inn w stk (st.reverse) (l) (nx) an qv (qs)) (hc:x.c=25):Calls Tryz.prog 70 #[.pointer (some ⟨r,0,none⟩),.agg (ic x.c x.p x.a x.n).toArray] w fun e w'=>∃ v,e=.returned (.int .i64 v)/\Kr w w'/\UP wS hb r T gs n pl C av ls ags rv iv rs inn cl x st l nx an qs v w':=by
 obtain⟨w1,a1,a2,a3,a4,a5⟩:=H
 have eT:tT x.c x.n=2:=by rw[hc];rfl
 have eL:lT x.c x.n=0:=by rw[hc];rfl
 have eG:gT x.c=200:=by rw[hc];rfl
 have hne:¬ x.c=1:=by omega
 have eS:stU cl ags ls rs x st l nx qs.length=if l<200 then (.error 102,[]) else if st.length<2\/64<st.length-2+0 then (.error 103,[]) else exh rs 25 st (nx+1) qs.length:=by
  unfold stU
  rw[eG,eT,eL,if_neg hne,if_neg (by omega:¬ x.c<24),hc]
 rw[hc]
 refine Calls.mono (sp_save r T gs n pl C hb av stk st l nx an ls ags x.p x.a x.n (fun E X w2=>E=(rs.getD qs.length (0,0)).2/\w2.heap.size=wS.heap.size/\Gro (·=hb) wS w2/\(Kr w X/\Below w2.heap.size w2 X)/\∃ qv',Hst X hb rv qv' iv rs (qs++[aq 2 (st.getD 1 0) (st.getD 0 0) 0 z20]) inn/\(∀ g,qv'.ownBlock=some g->wS.heap.size<=g)) hl hsl hnx w w1 w a3 ?_) ?_
 ·intro stk' W hW
  have hH:=a4.kh (hW.kh a3.be (by rw[a1];exact Nat.le_of_lt hlb))
  refine Calls.mono (save_n HN hb rv qv iv rs qs (st.getD 1 0) (st.getD 0 0) hq W hH) ?_
  rintro e w' ⟨rfl,hN⟩
  obtain⟨w2,b1,b2,b3⟩:=hW.host hH hN a1 a2 a5
  have hN2:=hN
  obtain⟨qv',c1,c2,c3⟩:=hN2
  refine⟨_,rfl,w2,⟨rfl,b1,b2,⟨fun b cs t h1 h2 h3 h4 rr=>hN.row hH h3 h4 (hW.kp h1 h2 rr),b3.be⟩,qv',c1,fun g e=>?_⟩,b3⟩
  rcases c3 g e with z|z
  ·exact a5 g z
  ·have:=hW.be.size;omega
 rintro e w' ⟨v,rfl,q⟩
 split at q
 ·rename_i h1
  rw[if_pos h1] at eS
  obtain⟨rfl,stk',ss',l',nx',q⟩:=q
  refine⟨102,rfl,zfE q,?_⟩
  unfold UP
  rw[eS]
  exact⟨rfl,stk',ss',l',nx',an,qv,w1,a1,a2,q.rebase,by rw[List.append_nil];exact a4.kh (q.kh a3.be (by rw[a1];exact Nat.le_of_lt hlb)),a5⟩
 rename_i h1
 rw[if_neg h1] at eS
 split at q
 ·rename_i h2
  rw[if_pos h2] at eS
  obtain⟨rfl,stk',ss',l',nx',q⟩:=q
  refine⟨103,rfl,zfE q,?_⟩
  unfold UP
  rw[eS]
  exact⟨rfl,stk',ss',l',nx',an,qv,w1,a1,a2,q.rebase,by rw[List.append_nil];exact a4.kh (q.kh a3.be (by rw[a1];exact Nat.le_of_lt hlb)),a5⟩
 rename_i h2
 rw[if_neg h2] at eS
 unfold exh at eS
 rw[if_neg (by decide),if_pos rfl] at eS
 obtain⟨w2,⟨p1,p2,p3,p4,qv',p5,p6⟩,stk',q⟩:=q
 rw[<-p1] at eS
 by_cases hE:v=0
 ·subst hE
  simp only[if_true] at eS
  refine⟨0,rfl,p4.1,?_⟩
  unfold UP
  rw[eS]
  refine⟨rfl,stk',qv',w2,p2,p3,?_,p5,p6⟩
  rw[if_neg hne,eG]
  exact q
 ·simp only[hE,if_false] at eS
  refine⟨v,rfl,p4.1,?_⟩
  unfold UP
  rw[eS]
  exact⟨rfl,stk',_,_,_,an,qv',w2,p2,p3,q,p5,p6⟩
theorem zzT (HN:zcN inn) (hlb:hb<wS.heap.size) (_hcl:cl.In C) (_h8:ags.length<=8) (x:Ins) (_h4:x.c=4->x.n<=15) (_h5:x.c=5->1<=x.n/\x.n<=15) (_hj:x.c=14\/x.c=15->x.n<n/\∃ m,stf ls x.n=m+1/\m<=100000) (_h16:x.c=16->x.n<=1000) (st:List Nat) (l nx:Nat) (an:List Value) (stk qv:Value) (qs:List (List Value)) (hst:∀ a ∈ st,a<2 ^ 256) (hl:l<=10000) (hsl:st.length<=64) (hnx:nx<=1024) (hq:qs.length<=1000) (w:World) (H:Lr wS hb r T gs n pl C av ls ags rv iv rs inn w stk (st.reverse) (l) (nx) an qv (qs)) (hc:x.c=26):Calls Tryz.prog 70 #[.pointer (some ⟨r,0,none⟩),.agg (ic x.c x.p x.a x.n).toArray] w fun e w'=>∃ v,e=.returned (.int .i64 v)/\Kr w w'/\UP wS hb r T gs n pl C av ls ags rv iv rs inn cl x st l nx an qs v w':=by
 obtain⟨w1,a1,a2,a3,a4,a5⟩:=H
 have eT:tT x.c x.n=2:=by rw[hc];rfl
 have eL:lT x.c x.n=1:=by rw[hc];rfl
 have eG:gT x.c=200:=by rw[hc];rfl
 have hne:¬ x.c=1:=by omega
 have eS:stU cl ags ls rs x st l nx qs.length=if l<200 then (.error 102,[]) else if st.length<2\/64<st.length-2+1 then (.error 103,[]) else exh rs 26 st (nx+1) qs.length:=by
  unfold stU
  rw[eG,eT,eL,if_neg hne,if_neg (by omega:¬ x.c<24),hc]
 rw[hc]
 refine Calls.mono (sp_have r T gs n pl C hb av stk st l nx an ls ags x.p x.a x.n (fun u E X w2=>(u,E)=rs.getD qs.length (0,0)/\w2.heap.size=wS.heap.size/\Gro (·=hb) wS w2/\(Kr w X/\Below w2.heap.size w2 X)/\∃ qv',Hst X hb rv qv' iv rs (qs++[aq 3 0 0 (st.getD 1 0) (adr (st.getD 0 0))]) inn/\(∀ g,qv'.ownBlock=some g->wS.heap.size<=g)) hst hl hsl hnx w w1 w a3 ?_) ?_
 ·intro stk' W hW
  have hH:=a4.kh (hW.kh a3.be (by rw[a1];exact Nat.le_of_lt hlb))
  refine Calls.mono (have_n HN hb rv qv iv rs qs (st.getD 1 0) (adr (st.getD 0 0)) (zdL _) (zrG _) hq W hH) ?_
  rintro e w' ⟨rfl,hN⟩
  obtain⟨w2,b1,b2,b3⟩:=hW.host hH hN a1 a2 a5
  have hN2:=hN
  obtain⟨qv',c1,c2,c3⟩:=hN2
  refine⟨_,_,rfl,w2,⟨rfl,b1,b2,⟨fun b cs t h1 h2 h3 h4 rr=>hN.row hH h3 h4 (hW.kp h1 h2 rr),b3.be⟩,qv',c1,fun g e=>?_⟩,b3⟩
  rcases c3 g e with z|z
  ·exact a5 g z
  ·have:=hW.be.size;omega
 rintro e w' ⟨v,rfl,q⟩
 split at q
 ·rename_i h1
  rw[if_pos h1] at eS
  obtain⟨rfl,stk',ss',l',nx',q⟩:=q
  refine⟨102,rfl,zfE q,?_⟩
  unfold UP
  rw[eS]
  exact⟨rfl,stk',ss',l',nx',an,qv,w1,a1,a2,q.rebase,by rw[List.append_nil];exact a4.kh (q.kh a3.be (by rw[a1];exact Nat.le_of_lt hlb)),a5⟩
 rename_i h1
 rw[if_neg h1] at eS
 split at q
 ·rename_i h2
  rw[if_pos h2] at eS
  obtain⟨rfl,stk',ss',l',nx',q⟩:=q
  refine⟨103,rfl,zfE q,?_⟩
  unfold UP
  rw[eS]
  exact⟨rfl,stk',ss',l',nx',an,qv,w1,a1,a2,q.rebase,by rw[List.append_nil];exact a4.kh (q.kh a3.be (by rw[a1];exact Nat.le_of_lt hlb)),a5⟩
 rename_i h2
 rw[if_neg h2] at eS
 unfold exh at eS
 rw[if_neg (by decide),if_neg (by decide),if_pos rfl] at eS
 rcases q with ⟨h6,rfl,stk',q⟩|⟨h6,q⟩
 ·rw[if_neg h6] at eS
  refine⟨104,rfl,zfE q,?_⟩
  unfold UP
  rw[eS]
  exact⟨rfl,stk',_,_,_,an,qv,w1,a1,a2,q.rebase,by rw[List.append_nil];exact a4.kh (q.kh a3.be (by rw[a1];exact Nat.le_of_lt hlb)),a5⟩
 rw[if_pos h6] at eS
 obtain⟨u,E,X,w2,⟨p1,p2,p3,p4,qv',p5,p6⟩,q⟩:=q
 rw[<-p1] at eS
 have kr:∀ {ss:List Nat} {stk':Value},Rn X w2 w' r T gs n pl C (.iface 46 (.pointer (some ⟨hb,0,none⟩))) av stk' (ss) (l-200) (nx+1) an ls ags->Kr w w':=fun q b cs t h1 h2 h3 h4 rr=>q.kp h1 h2 (p4.1 b cs t h1 h2 h3 h4 rr)
 rcases q with ⟨hE,rfl,stk',q⟩|⟨hE,rfl,stk',q⟩
 ·simp only[hE,if_true] at eS
  refine⟨0,rfl,kr q,?_⟩
  unfold UP
  rw[eS]
  refine⟨rfl,stk',qv',w2,p2,p3,?_,p5.kh (q.kh p4.2 (by rw[p2];exact Nat.le_of_lt hlb)),p6⟩
  rw[if_neg hne,eG]
  exact q.rebase
 ·simp only[hE,if_false] at eS
  refine⟨v,rfl,kr q,?_⟩
  unfold UP
  rw[eS]
  exact⟨rfl,stk',_,_,_,an,qv',w2,p2,p3,q.rebase,p5.kh (q.kh p4.2 (by rw[p2];exact Nat.le_of_lt hlb)),p6⟩
theorem zzU (HN:zcN inn) (hlb:hb<wS.heap.size) (_hcl:cl.In C) (_h8:ags.length<=8) (x:Ins) (_h4:x.c=4->x.n<=15) (_h5:x.c=5->1<=x.n/\x.n<=15) (_hj:x.c=14\/x.c=15->x.n<n/\∃ m,stf ls x.n=m+1/\m<=100000) (_h16:x.c=16->x.n<=1000) (st:List Nat) (l nx:Nat) (an:List Value) (stk qv:Value) (qs:List (List Value)) (hst:∀ a ∈ st,a<2 ^ 256) (hl:l<=10000) (hsl:st.length<=64) (hnx:nx<=1024) (hq:qs.length<=1000) (w:World) (H:Lr wS hb r T gs n pl C av ls ags rv iv rs inn w stk (st.reverse) (l) (nx) an qv (qs)) (hc:x.c=27):Calls Tryz.prog 70 #[.pointer (some ⟨r,0,none⟩),.agg (ic x.c x.p x.a x.n).toArray] w fun e w'=>∃ v,e=.returned (.int .i64 v)/\Kr w w'/\UP wS hb r T gs n pl C av ls ags rv iv rs inn cl x st l nx an qs v w':=by
 obtain⟨w1,a1,a2,a3,a4,a5⟩:=H
 have eT:tT x.c x.n=3:=by rw[hc];rfl
 have eL:lT x.c x.n=0:=by rw[hc];rfl
 have eG:gT x.c=500:=by rw[hc];rfl
 have hne:¬ x.c=1:=by omega
 have eS:stU cl ags ls rs x st l nx qs.length=if l<500 then (.error 102,[]) else if st.length<3\/64<st.length-3+0 then (.error 103,[]) else exh rs 27 st (nx+1) qs.length:=by
  unfold stU
  rw[eG,eT,eL,if_neg hne,if_neg (by omega:¬ x.c<24),hc]
 rw[hc]
 refine Calls.mono (sp_send r T gs n pl C hb av stk st l nx an ls ags x.p x.a x.n (fun E X w2=>E=(rs.getD qs.length (0,0)).2/\w2.heap.size=wS.heap.size/\Gro (·=hb) wS w2/\(Kr w X/\Below w2.heap.size w2 X)/\∃ qv',Hst X hb rv qv' iv rs (qs++[aq 4 (st.getD 0 0) 0 (st.getD 2 0) (adr (st.getD 1 0))]) inn/\(∀ g,qv'.ownBlock=some g->wS.heap.size<=g)) hst hl hsl hnx w w1 w a3 ?_) ?_
 ·intro stk' W hW
  have hH:=a4.kh (hW.kh a3.be (by rw[a1];exact Nat.le_of_lt hlb))
  refine Calls.mono (send_n HN hb rv qv iv rs qs (st.getD 2 0) (st.getD 0 0) (adr (st.getD 1 0)) (zdL _) (zrG _) hq W hH) ?_
  rintro e w' ⟨rfl,hN⟩
  obtain⟨w2,b1,b2,b3⟩:=hW.host hH hN a1 a2 a5
  have hN2:=hN
  obtain⟨qv',c1,c2,c3⟩:=hN2
  refine⟨_,rfl,w2,⟨rfl,b1,b2,⟨fun b cs t h1 h2 h3 h4 rr=>hN.row hH h3 h4 (hW.kp h1 h2 rr),b3.be⟩,qv',c1,fun g e=>?_⟩,b3⟩
  rcases c3 g e with z|z
  ·exact a5 g z
  ·have:=hW.be.size;omega
 rintro e w' ⟨v,rfl,q⟩
 split at q
 ·rename_i h1
  rw[if_pos h1] at eS
  obtain⟨rfl,stk',ss',l',nx',q⟩:=q
  refine⟨102,rfl,zfE q,?_⟩
  unfold UP
  rw[eS]
  exact⟨rfl,stk',ss',l',nx',an,qv,w1,a1,a2,q.rebase,by rw[List.append_nil];exact a4.kh (q.kh a3.be (by rw[a1];exact Nat.le_of_lt hlb)),a5⟩
 rename_i h1
 rw[if_neg h1] at eS
 split at q
 ·rename_i h2
  rw[if_pos h2] at eS
  obtain⟨rfl,stk',ss',l',nx',q⟩:=q
  refine⟨103,rfl,zfE q,?_⟩
  unfold UP
  rw[eS]
  exact⟨rfl,stk',ss',l',nx',an,qv,w1,a1,a2,q.rebase,by rw[List.append_nil];exact a4.kh (q.kh a3.be (by rw[a1];exact Nat.le_of_lt hlb)),a5⟩
 rename_i h2
 rw[if_neg h2] at eS
 unfold exh at eS
 rw[if_neg (by decide),if_neg (by decide),if_neg (by decide)] at eS
 rcases q with ⟨h6,rfl,stk',q⟩|⟨h6,q⟩
 ·rw[if_neg h6] at eS
  refine⟨104,rfl,zfE q,?_⟩
  unfold UP
  rw[eS]
  exact⟨rfl,stk',_,_,_,an,qv,w1,a1,a2,q.rebase,by rw[List.append_nil];exact a4.kh (q.kh a3.be (by rw[a1];exact Nat.le_of_lt hlb)),a5⟩
 rw[if_pos h6] at eS
 obtain⟨w2,⟨p1,p2,p3,p4,qv',p5,p6⟩,stk',q⟩:=q
 rw[<-p1] at eS
 by_cases hE:v=0
 ·subst hE
  simp only[if_true] at eS
  refine⟨0,rfl,p4.1,?_⟩
  unfold UP
  rw[eS]
  refine⟨rfl,stk',qv',w2,p2,p3,?_,p5,p6⟩
  rw[if_neg hne,eG]
  exact q
 ·simp only[hE,if_false] at eS
  refine⟨v,rfl,p4.1,?_⟩
  unfold UP
  rw[eS]
  exact⟨rfl,stk',_,_,_,an,qv',w2,p2,p3,q,p5,p6⟩
theorem step_u (HN:zcN inn) (hlb:hb<wS.heap.size) (hcl:cl.In C) (h8:ags.length<=8) (x:Ins) (h4:x.c=4->x.n<=15) (h5:x.c=5->1<=x.n/\x.n<=15) (hj:x.c=14\/x.c=15->x.n<n/\∃ m,stf ls x.n=m+1/\m<=100000) (h16:x.c=16->x.n<=1000) (st:List Nat) (l nx:Nat) (an:List Value) (stk qv:Value) (qs:List (List Value)) (hst:∀ a ∈ st,a<2 ^ 256) (hl:l<=10000) (hsl:st.length<=64) (hnx:nx<=1024) (hq:qs.length<=1000) (w:World) (H:Lr wS hb r T gs n pl C av ls ags rv iv rs inn w stk (st.reverse) (l) (nx) an qv (qs)) (hc:x.c<28):Calls Tryz.prog 70 #[.pointer (some ⟨r,0,none⟩),.agg (ic x.c x.p x.a x.n).toArray] w fun e w'=>∃ v,e=.returned (.int .i64 v)/\Kr w w'/\UP wS hb r T gs n pl C av ls ags rv iv rs inn cl x st l nx an qs v w':=by
 by_cases h1:x.c=1
 ·exact step_u1 hlb hcl h8 x h4 h5 hj h16 st l nx an stk qv qs hst hl hsl hnx hq w H h1
 by_cases h2:x.c<24
 ·exact zzV hlb hcl h8 x h4 h5 hj h16 st l nx an stk qv qs hst hl hsl hnx hq w H h2 h1
 rcases (show x.c=24\/x.c=25\/x.c=26\/x.c=27 by omega) with h|h|h|h
 ·exact zzR HN hlb hcl h8 x h4 h5 hj h16 st l nx an stk qv qs hst hl hsl hnx hq w H h
 ·exact zzS HN hlb hcl h8 x h4 h5 hj h16 st l nx an stk qv qs hst hl hsl hnx hq w H h
 ·exact zzT HN hlb hcl h8 x h4 h5 hj h16 st l nx an stk qv qs hst hl hsl hnx hq w H h
 ·exact zzU HN hlb hcl h8 x h4 h5 hj h16 st l nx an stk qv qs hst hl hsl hnx hq w H h
end
def zcH (G:Nat):Except Int (Nat × Nat)->List Value × Int
 |.ok (v,l1)=>(wq v++[.int .i64 ((G-l1:Nat):Int)],0)
 |.error E=>(zR,E)
def PgOk (n:Nat) (ls:List Ins):Prop:=∀ y ∈ ls,y.c<28/\(y.c=4->y.n<=15)/\(y.c=5->1<=y.n/\y.n<=15)/\(y.c=14\/y.c=15->y.n<n/\∃ m,stf ls y.n=m+1/\m<=100000)/\(y.c=16->y.n<=1000)
section
variable {wS:World} {hb r T gs n:Nat} {pl:Value} {C:List Value} {av:Value} {ls:List Ins} {ags:List Nat} {rv iv:Value} {rs:List (Nat × Int)} {inn:List (BitVec 8)} {w w':World} {stk:Value} {ss:List Nat} {l nx:Nat} {an:List Value} {qv:Value} {qs:List (List Value)}
theorem Lr.keep (H:Lr wS hb r T gs n pl C av ls ags rv iv rs inn w stk ss l nx an qv qs) (k:Below w.heap.size w w'):Lr wS hb r T gs n pl C av ls ags rv iv rs inn w' stk ss l nx an qv qs:=by
 obtain⟨w1,a1,a2,a3,a4,a5⟩:=H
 exact⟨w1,a1,a2,(a3.keep k).rebase,a4.below k,a5⟩
theorem Lr.gro (H:Lr wS hb r T gs n pl C av ls ags rv iv rs inn w stk ss l nx an qv qs):Gro (·=hb) wS w:=by
 obtain⟨w1,a1,a2,a3,a4,a5⟩:=H
 exact a2.below a3.be
theorem Lr.row (H:Lr wS hb r T gs n pl C av ls ags rv iv rs inn w stk ss l nx an qv qs):Row w r (rc T pl (.slice (some ⟨gs,0,none⟩) n n) C (.iface 46 (.pointer (some ⟨hb,0,none⟩))) stk l nx an) 79/\C.length=48:=by
 obtain⟨w1,a1,a2,a3,a4,a5⟩:=H
 exact⟨a3.row,a3.clen⟩
theorem Lr.prg (H:Lr wS hb r T gs n pl C av ls ags rv iv rs inn w stk ss l nx an qv qs):Lw w 97 7 pl ls.length (fl ls):=by
 obtain⟨w1,a1,a2,a3,a4,a5⟩:=H
 exact a3.prg
theorem Lr.hst (H:Lr wS hb r T gs n pl C av ls ags rv iv rs inn w stk ss l nx an qv qs):Hst w hb rv qv iv rs qs inn:=by
 obtain⟨w1,a1,a2,a3,a4,a5⟩:=H
 exact a4
end
def Rd (cl:Cl) (ags:List Nat) (ls:List Ins) (rs:List (Nat × Int)) (R:Except Int (Nat × Nat)) (Q:List (List Value)) (G:Nat) (st:List Nat) (l nx:Nat) (qs:List (List Value)):Prop:=
 (∃ f Qf,ev2 cl ags ls rs f st l nx qs.length=(R,Qf)/\Q=qs++Qf/\l<f)/\qs.length*200+l<=10000/\l<=G/\(∀ a ∈ st,a<2 ^ 256)/\st.length<=64
theorem Rd.step {cl:Cl} {ags:List Nat} {ls:List Ins} {rs:List (Nat × Int)} {R:Except Int (Nat × Nat)} {Q:List (List Value)} {G:Nat} {st:List Nat} {l nx:Nat} {qs:List (List Value)} (V:zpW (2 ^ 256) cl ags ls rs) (h:Rd cl ags ls rs R Q G st l nx qs) (x:Ins) (hx:ls[nx]?=some x) (hc:x.c<28) :
 (∀ E q,stU cl ags ls rs x st l nx qs.length=(.error E,q)->R=.error E/\Q=qs++q/\E≠0)/\
 (∀ st' nx' q,stU cl ags ls rs x st l nx qs.length=(.ok (st',nx'),q)->(x.c=1->R=.ok (st.getD 0 0,l-1)/\Q=qs++q/\1<=l/\l-1<=G)/\(x.c≠1->Rd cl ags ls rs R Q G st' (l-gT x.c) nx' (qs++q)/\nx'<=ls.length/\l-gT x.c<l)):=by
 obtain⟨⟨f,Qf,h1,h2,h3⟩,h4,h5,h6,h7⟩:=h
 have hm:x ∈ ls:=List.mem_of_getElem? hx
 have hlt:nx<ls.length:=(List.getElem?_eq_some_iff.1 hx).1
 have hinv:=stU_inv V x hm hc st h6 l nx qs.length (by omega) (by omega)
 have hg1:=gT_pos x.c hc
 obtain⟨f',rfl⟩:∃ f',f=f'+1:=⟨f-1,by omega⟩
 unfold ev2 at h1
 rw[hx] at h1
 simp only at h1
 refine⟨fun E q he=>?_,fun st' nx' q he=>?_⟩
 ·rw[he] at h1
  simp only[Prod.mk.injEq] at h1
  exact⟨h1.1.symm,by rw[h2,h1.2],hinv.2 E (by rw[he])⟩
 ·have hgl:gT x.c<=l:=zuO (y:=(st',nx')) (by rw[he])
  have hi:=hinv.1 st' nx' (by rw[he])
  rw[he] at h1
  simp only at h1
  refine⟨fun hc1=>?_,fun hc1=>?_⟩
  ·rw[if_pos hc1] at h1
   simp only[Prod.mk.injEq] at h1
   rw[hc1] at hgl
   have:gT 1=1:=rfl
   exact⟨h1.1.symm,by rw[h2,h1.2],by omega,by omega⟩
  ·rw[if_neg hc1] at h1
   simp only[Prod.mk.injEq] at h1
   have hql:(qs++q).length=qs.length+q.length:=List.length_append
   have h200:q.length*200+(l-gT x.c)<=l:=by
    by_cases hq:q=[]
    ·rw[hq,List.length_nil];omega
    ·have h2':=zuN (cl:=cl) (ags:=ags) (ls:=ls) (rs:=rs) (x:=x) (st:=st) (l:=l) (nx:=nx) (nq:=qs.length) hc (by rw[he];exact hq)
     have h1':=zuP (cl:=cl) (ags:=ags) (ls:=ls) (rs:=rs) (x:=x) (st:=st) (l:=l) (nx:=nx) (nq:=qs.length)
     rw[he] at h1'
     rcases h1' with h1'|⟨a,h1',_⟩
     ·exact absurd h1' hq
     ·simp only at h1'
      rw[h1',List.length_singleton]
      omega
   refine⟨⟨⟨f',(ev2 cl ags ls rs f' st' (l-gT x.c) nx' (qs++q).length).2,?_,?_,by omega⟩,?_,by omega,hi.1,hi.2.1⟩,hi.2.2,by omega⟩
   ·rw[hql]
    exact Prod.ext h1.1 rfl
   ·rw[h2,<-h1.2,hql,List.append_assoc]
   ·rw[hql,Nat.add_mul]
    omega
theorem ends {wS X Y:World} {hb b2:Nat} {rv iv:Value} {rs:List (Nat × Int)} {qs Q:List (List Value)} {inn:List (BitVec 8)} {cs:List Value} (h:∃ qv',Hst X hb rv qv' iv rs qs inn/\Gro (·=hb) wS X) (k:Gro (·=b2) X Y) (r:Row X b2 cs 35) (hl:wS.heap.size<=b2) (hlb:hb<b2) (hQ:Q=qs):∃ qv',Hst Y hb rv qv' iv rs Q inn/\Gro (·=hb) wS Y:=by
 obtain⟨qv',h1,h2⟩:=h
 refine⟨qv',?_,h2.then k (fun g e=>.inr (by rw[e];exact hl))⟩
 rw[hQ]
 exact h1.kh ⟨fun bb cs t ht rr=>k.row rr (fun e=>by
  have hne:t≠35:=by rcases ht with h|h|h|h <;> rw[h] <;> decide
  exact zaN rr r hne e),fun bb h1 h2=>k.block bb h2 (fun e=>by omega)⟩
theorem zrI {inn:List (BitVec 8)} (HNX:zcN inn) (wS:World) (hb r T gs n:Nat) (hhb:hb<wS.heap.size) (pl:Value) (C:List Value) (av:Value) (ls:List Ins) (ags:List Nat) (rv iv:Value) (rs:List (Nat × Int)) (cl:Cl) (hcl:cl.In C) (V:zpW (2 ^ 256) cl ags ls rs) (hpos:0<ls.length) (hls:ls.length<=1024) (hpg:PgOk n ls) (G:Nat) (hG:G<=10000) (hgas:C[47]?=some (.int .i64 (G:Int))) (stk0:Value) (an:List Value) (qv:Value) (R:Except Int (Nat × Nat)) (Q:List (List Value)) (hev:ev2 cl ags ls rs 10001 [] G 0 0=(R,Q)) (RV:List Value) (RE:Int) (hR:zcH G R=(RV,RE)) (w:World) (H:Lr wS hb r T gs n pl C av ls ags rv iv rs inn w stk0 [] G 0 an qv []) :
 Calls Tryz.prog 28 #[.pointer (some ⟨r,0,none⟩)] w fun e w'=>e=.returned (.tuple #[.agg RV.toArray,.int .i64 RE])/\∃ qv',Hst w' hb rv qv' iv rs Q inn/\Gro (·=hb) wS w':=by
 obtain⟨g,cp,hpl,hcp⟩:=Lw.open H.prg hpos
 subst hpl
 obtain⟨N,hN⟩:∃ N,N=ls.length:=⟨_,rfl⟩
 have HN:Hid (N=ls.length):=hN
 have HH:Hid (Lr wS hb r T gs n (.slice (some ⟨g,0,none⟩) N cp) C av ls ags rv iv rs inn w stk0 ([]) G 0 an qv ([])):=by rw[hN];exact H
 have HG:Hid (C[47]?=some (.int .i64 (G:Int))):=hgas
 have HV:Hid (zpW (2 ^ 256) cl ags ls rs/\PgOk n ls/\cl.In C/\zcN inn):=⟨V,hpg,hcl,HNX⟩
 have HRD0:Hid (Rd cl ags ls rs R Q G [] G 0 []):=⟨⟨10001,Q,hev,rfl,by omega⟩,by simp;omega,Nat.le_refl _,(fun a ha=>by cases ha),Nat.zero_le _⟩
 have HRR:Hid (zcH G R=(RV,RE)):=hR
 have hNl:N<=1024:=by omega
 have HWS:Hid (wS.heap.size<=w.heap.size):=H.gro.size
 have HLTB:Hid (hb<wS.heap.size):=hhb
 clear hhb H hgas hcp V hev hpos hls hN hcl hpg HNX hR
 go_enter Tryz.func28,Tryz.ntmps28
 go_upto_region 1 with (refine zaT rfl rfl ?_;intro X0 q1 q2 q3;have RB0:Hid (Row X0 w.heap.size zR 35):=q1;have HR0:Hid (Lr wS hb r T gs n (.slice (some ⟨g,0,none⟩) N cp) C av ls ags rv iv rs inn X0 stk0 ([]) G 0 an qv ([])):=HH.out.keep q2;clear q1 q2 q3;simp only[Act.put,jA,jB,jC])
 obtain⟨b2,hb2⟩:∃ b,b=w.heap.size:=⟨_,rfl⟩
 rw[<-hb2] at RB0
 rw[<-hb2]
 have HB2:Hid (wS.heap.size<=b2):=by show _<=_;rw[hb2];exact HWS.out
 clear hb2 HH HWS
 have c1:X0.cell? ⟨r,1,none⟩=some (.slice (some ⟨g,0,none⟩) N cp):=HR0.out.row.1.cell 1 _ rfl
 go_step3
 go_wp2_with fail
 go_step3
 go_wp2_with fail
 clear c1
 go_loopw [6] (fun _ wr=>∃ (nx l:Nat) (st:List Nat) (stk qv:Value) (an:List Value) (qs:List (List Value)),Hid (Lr wS hb r T gs n (.slice (some ⟨g,0,none⟩) N cp) C av ls ags rv iv rs inn wr stk (st.reverse) l nx an qv (qs))/\Hid (Row wr b2 zR 35)/\Hid (Rd cl ags ls rs R Q G st l nx qs)/\nx<=N/\l<=10000) (fun _ wr=>(match wr.cell? ⟨r,53,none⟩ with|some u=>(intOf u).toNat|none=>0))
 case atStart=>exact⟨0,G,[],stk0,qv,an,[],HR0,RB0,HRD0,Nat.zero_le _,hG⟩
 case round=>
  clear HR0 RB0 HRD0 an qv
  obtain⟨nx,l,st,stk,qv,an,qs,HR1,RB1,HRD,hnx,hl⟩:=hrel
  have c54:wr.cell? ⟨r,54,none⟩=some (.int .i64 (nx:Int)):=HR1.out.row.1.cell 54 _ (zbX HR1.out.row.2 3)
  by_cases hlt:nx<N
  ·obtain⟨x,hx⟩:∃ x,ls[nx]?=some x:=⟨_,List.getElem?_eq_getElem (by rw[<-HN.out];exact hlt)⟩
   have hxm:x ∈ ls:=List.mem_of_getElem? hx
   have hpx:=HV.out.2.1 x hxm
   have hds:=HRD.out.step HV.out.1 x hx hpx.1
   have c53:wr.cell? ⟨r,53,none⟩=some (.int .i64 (l:Int)):=HR1.out.row.1.cell 53 _ (zbX HR1.out.row.2 2)
   have hNx:((nx:Int)==(N:Int))=false:=by simp;omega
   obtain⟨L,hL⟩:∃ L,L=ic x.c x.p x.a x.n:=⟨_,rfl⟩
   have HL:Hid (L=ic x.c x.p x.a x.n):=hL
   have RG:Hid (wr.rangeAt g (nx*7) L):=by rw[hL];exact zqK (Lw.range (by have:=HR1.out.prg;rwa [<-HN.out] at this)) nx x hx
   have HI:Hid ((Tryz.prog.info? 97).map (·.size)=some L.length):=by show _=_;rw[hL];exact zcQ _ _ _ _
   have HN7:Hid (L.length=zI.length):=by show _=_;rw[hL];exact zdD _ _ _ _
   have HO:Hid (L.toArray.all (·.oneCell')=true):=by show _=_;rw[hL];exact zfA _ _ _ _
   have HDS:Hid _:=hds
   have HPX:Hid _:=hpx
   have HM:Hid (∀ (wz:World) (lz:Nat),lz<l->wz.cell? ⟨r,53,none⟩=some (.int .i64 (lz:Int))->(match wz.cell? ⟨r,53,none⟩ with|some u=>(intOf u).toNat|none=>0)<(match wr.cell? ⟨r,53,none⟩ with|some u=>(intOf u).toNat|none=>0)):=fun wz lz hlz hz=>by rw[hz,c53];simp [intOf];omega
   clear hL hx hxm hpx hds c53
   go_upto_region 5 with (first
    |(refine zaG rfl 97 (.tmp 25) rfl g (nx*7) rfl L _ RG.out Tryz.underlying97 rfl HI.out ?_;simp only[Act.put,jA,jB,jC])
    |(refine zaX rfl rfl ?_;intro Y1 (R2:Hid (Row Y1 wr.heap.size zI 97)) (B2:Hid (Below wr.heap.size wr Y1)) q3;clear q3;simp only[Act.put,jA,jB,jC])
    |(refine zaD rfl 97 (.tmp 5) (.tmp 26) rfl wr.heap.size L zI 97 rfl rfl R2.out HN7.out HI.out HO.out ?_;intro Y2 (E2:Hid (Y2=_)) (R3:Hid (Row Y2 wr.heap.size L 97));simp only[Act.put]))
   have BY:Below wr.heap.size wr Y2:=by rw[E2.out];exact zaC B2.out (Nat.le_refl _) _
   have HRY:Hid (Lr wS hb r T gs n (.slice (some ⟨g,0,none⟩) N cp) C av ls ags rv iv rs inn Y2 stk (st.reverse) l nx an qv (qs)):=HR1.out.keep BY
   have RBY:Hid (Row Y2 b2 zR 35):=Row.below RB1.out BY RB1.out.lt
   obtain⟨b5,hb5⟩:∃ b,b=wr.heap.size:=⟨_,rfl⟩
   rw[<-hb5] at R3
   rw[<-hb5]
   have hrd:=HRD.out
   have HSU:Hid (Calls Tryz.prog 70 #[.pointer (some ⟨r,0,none⟩),.agg L.toArray] Y2 fun e w'=>∃ v,e=.returned (.int .i64 v)/\Kr Y2 w'/\UP wS hb r T gs n (.slice (some ⟨g,0,none⟩) N cp) C av ls ags rv iv rs inn cl x st l nx an qs v w'):=by
    rw[HL.out]
    exact step_u HV.out.2.2.2 HLTB.out HV.out.2.2.1 HV.out.1.al x HPX.out.2.1 HPX.out.2.2.1 HPX.out.2.2.2.1 HPX.out.2.2.2.2 st l nx an stk qv qs hrd.2.2.2.1 (by omega) hrd.2.2.2.2 (by omega) (by have:=hrd.2.1;omega) Y2 HRY.out HPX.out.1
   have ci:L[0]?=some (.int .i64 (x.c:Int)):=by rw[HL.out];exact ic_0 _ _ _ _
   have HCI:Hid (L[0]?=some (.int .i64 (x.c:Int))):=ci
   clear ci hb5 c54 E2 R2 B2 BY RG HN7 HO HR1 RB1 hrd HRD HL HPX HRY
   rcases hstu:stU cl ags ls rs x st l nx qs.length with ⟨rr,q⟩
   cases rr with
   |error E=>
    have hd:=HDS.out.1 E q hstu
    have HS:Hid (Calls Tryz.prog 70 #[.pointer (some ⟨r,0,none⟩),.agg L.toArray] Y2 fun e w'=>e=.returned (.int .i64 E)/\Row w' b2 zR 35/\∃ qv',Hst w' hb rv qv' iv rs (qs++q) inn/\Gro (·=hb) wS w'):=by
     refine Calls.mono HSU.out ?_
     rintro e w' ⟨v,rfl,k,u⟩
     unfold UP at u
     rw[hstu] at u
     obtain⟨rfl,stk',ss',l',nx',an',qv',u⟩:=u
     exact⟨rfl,k _ _ _ (by decide) (by decide) (by decide) (by decide) RBY.out,qv',u.hst,u.gro⟩
    have HD:Hid (R=.error E/\Q=qs++q):=⟨hd.1,hd.2.1⟩
    have hE0:¬ E=0:=hd.2.2
    have hE1:(E != 0)=true:=by simpa using hE0
    clear hd HDS hstu HSU HCI
    go_upto_region 7 with (first
     |(refine zaG rfl 97 (.tmp 5) rfl b5 0 rfl L _ R3.out.all Tryz.underlying97 rfl HI.out ?_;simp only[Act.put,jA,jB,jC])
     |(go_at_call 70;refine Calls.mono HS.out ?_;rintro e X2 ⟨rfl,q1,q2⟩;have RB2:Hid (Row X2 b2 zR 35):=q1;have HF2:Hid (∃ qv',Hst X2 hb rv qv' iv rs (qs++q) inn/\Gro (·=hb) wS X2):=q2;clear q1 q2))
    go_wp2_with (refine zaD rfl 35 (.tmp 2) (.tmp 33) rfl b2 zR zR 35 rfl rfl RB2.out rfl zaP zcW ?_;intro X9 (E9:Hid (X9=_)) (R9:Hid (Row X9 b2 zR 35));simp only[Act.put])
    rw[Exit.noGoto_ret]
    have hG9:Gro (·=b2) X2 X9:=by rw[E9.out];exact zbB b2 _ 0 X2 X2 (Gro.refl _ X2)
    have hr:=HRR.out
    rw[HD.out.1] at hr
    obtain⟨hv1,hv2⟩:=Prod.mk.inj hr
    refine bodyPost_ret (zaO Tryz.results28 _ _ b2 35 zR (.int .i64 E) rfl rfl R9.out Tryz.underlying35 zaP) rfl ?_
    exact⟨by rw[<-hv1,<-hv2],ends HF2.out hG9 RB2.out HB2.out (Nat.lt_of_lt_of_le HLTB.out HB2.out) HD.out.2⟩
   |ok y=>
    obtain⟨st',nx'⟩:=y
    have hd:=HDS.out.2 st' nx' q hstu
    by_cases hc1:x.c=1
    ·have hd1:=hd.1 hc1
     obtain⟨lz,hlz⟩:∃ lz,lz=l-gT x.c:=⟨_,rfl⟩
     obtain⟨v,hv⟩:∃ v,v=st.getD 0 0:=⟨_,rfl⟩
     have eg:gT x.c=1:=by rw[hc1];rfl
     have HS:Hid (Calls Tryz.prog 70 #[.pointer (some ⟨r,0,none⟩),.agg L.toArray] Y2 fun e w'=>e=.returned (.int .i64 0)/\Row w' b2 zR 35/\Row w' b5 L 97/\∃ stk' qv',Lr wS hb r T gs n (.slice (some ⟨g,0,none⟩) N cp) C av ls ags rv iv rs inn w' stk' (st'.reverse) lz nx' (wq v) qv' (qs++q)):=by
      refine Calls.mono HSU.out ?_
      rintro e w' ⟨v',rfl,k,u⟩
      unfold UP at u
      rw[hstu] at u
      obtain⟨rfl,stk',qv',u⟩:=u
      rw[if_pos hc1,<-hlz,<-hv] at u
      exact⟨rfl,k _ _ _ (by decide) (by decide) (by decide) (by decide) RBY.out,k _ _ _ (by decide) (by decide) (by decide) (by decide) R3.out,stk',qv',u⟩
     have HCI1:Hid (L[0]?=some (.int .i64 1)):=by have:=HCI.out;rw[hc1] at this;exact this
     have HD:Hid (R=.ok (v,lz)/\Q=qs++q):=⟨by rw[hv,hlz,eg];exact hd1.1,hd1.2.1⟩
     have hlzG:lz<=G:=by rw[hlz,eg];exact hd1.2.2.2
     clear hd hd1 HDS hstu HSU HCI hlz hv eg hc1 RBY
     go_upto_region 6 with (first
      |(refine zaG rfl 97 (.tmp 5) rfl b5 0 rfl L _ R3.out.all Tryz.underlying97 rfl HI.out ?_;simp only[Act.put,jA,jB,jC])
      |(go_at_call 70;refine Calls.mono HS.out ?_;rintro e X4 ⟨rfl,q1,q2,stk4,qv4,q3⟩;have RB4:Hid (Row X4 b2 zR 35):=q1;have R5:Hid (Row X4 b5 L 97):=q2;have HR4:Hid (Lr wS hb r T gs n (.slice (some ⟨g,0,none⟩) N cp) C av ls ags rv iv rs inn X4 stk4 (st'.reverse) lz nx' (wq v) qv4 (qs++q)):=q3;clear q1 q2 q3))
     have ci0:X4.cell? ⟨b5,0,none⟩=some (.int .i64 1):=R5.out.cell 0 _ HCI1.out
     clear HS R3 R5 HI
     have hwv:∃ a0 a1 a2 a3:Int,wq v=[.int .u64 a0,.int .u64 a1,.int .u64 a2,.int .u64 a3]:=⟨_,_,_,_,zaQ v⟩
     obtain⟨a0,a1,a2,a3,hwv⟩:=hwv
     have HWV:Hid (wq v=[.int .u64 a0,.int .u64 a1,.int .u64 a2,.int .u64 a3]):=hwv
     have r55:∀ j u,(wq v)[j]?=some u->X4.cell? ⟨r,j+55,none⟩=some u:=fun j u hj=>HR4.out.row.1.cell (j+55) _ ((zbX HR4.out.row.2 (j+4)).trans hj)
     rw[hwv] at r55
     have d0:X4.cell? ⟨r,55,none⟩=some (.int .u64 a0):=r55 0 _ rfl
     have d1:X4.cell? ⟨r,56,none⟩=some (.int .u64 a1):=r55 1 _ rfl
     have d2:X4.cell? ⟨r,57,none⟩=some (.int .u64 a2):=r55 2 _ rfl
     have d3:X4.cell? ⟨r,58,none⟩=some (.int .u64 a3):=r55 3 _ rfl
     have d4:X4.cell? ⟨r,50,none⟩=some (.int .i64 (G:Int)):=HR4.out.row.1.cell 50 _ ((zgZ HR4.out.row.2 47 (by decide)).trans HG.out)
     have d5:X4.cell? ⟨r,53,none⟩=some (.int .i64 (lz:Int)):=HR4.out.row.1.cell 53 _ (zbX HR4.out.row.2 2)
     have e0:=RB4.out.cell 0 _ rfl
     have f0:=RB4.out.thaw 0
     have e1:=RB4.out.cell 1 _ rfl
     have f1:=RB4.out.thaw 1
     have e2:=RB4.out.cell 2 _ rfl
     have f2:=RB4.out.thaw 2
     have e3:=RB4.out.cell 3 _ rfl
     have f3:=RB4.out.thaw 3
     have e4:=RB4.out.cell 4 _ rfl
     have f4:=RB4.out.thaw 4
     have HF4:Hid (∃ qv',Hst X4 hb rv qv' iv rs (qs++q) inn/\Gro (·=hb) wS X4):=⟨_,HR4.out.hst,HR4.out.gro⟩
     obtain⟨df,hdf⟩:∃ d:Int,d=(G:Int)-(lz:Int):=⟨_,rfl⟩
     have hw:IntKind.i64.wrap ((G:Int)-(lz:Int))=df:=by rw[IntKind.wrap_i64];omega
     have HDF:Hid (df=(G:Int)-(lz:Int)):=hdf
     clear r55 hwv HR4 hdf
     go_upto_region 9 with fail
     go_region
     have RF:=((((RB4.out.set 0 (.int .u64 a0)).set 1 (.int .u64 a1)).set 2 (.int .u64 a2)).set 3 (.int .u64 a3)).set 4 (.int .i64 df)
     have GF:Gro (·=b2) X4 _:=(((((Gro.refl (·=b2) X4).set b2 0 (.int .u64 a0) rfl).set b2 1 (.int .u64 a1) rfl).set b2 2 (.int .u64 a2) rfl).set b2 3 (.int .u64 a3) rfl).set b2 4 (.int .i64 df) rfl
     have RFD:=RF.drew
     have GFD:=zjW GF
     have hr:=HRR.out
     rw[HD.out.1] at hr
     obtain⟨hv1,hv2⟩:=Prod.mk.inj hr
     have hvv:RV=[.int .u64 a0,.int .u64 a1,.int .u64 a2,.int .u64 a3,.int .i64 df]:=by
      rw[<-hv1,HWV.out,show ((G-lz:Nat):Int)=df by rw[HDF.out];omega]
      rfl
     have HVV:Hid (RV=[.int .u64 a0,.int .u64 a1,.int .u64 a2,.int .u64 a3,.int .i64 df]/\RE=0):=⟨hvv,hv2.symm⟩
     clear d0 d1 d2 d3 d4 d5 e0 e1 e2 e3 e4 f0 f1 f2 f3 f4 ci0 hr hv1 hv2 hvv hw
     go_wp2_with fail
     rw[Exit.noGoto_ret]
     refine bodyPost_ret (zaO Tryz.results28 _ _ b2 35 [.int .u64 a0,.int .u64 a1,.int .u64 a2,.int .u64 a3,.int .i64 df] (.int .i64 0) rfl rfl RFD Tryz.underlying35 zaP) rfl ?_
     exact⟨by rw[HVV.out.1,HVV.out.2],ends HF4.out GFD RB4.out HB2.out (Nat.lt_of_lt_of_le HLTB.out HB2.out) HD.out.2⟩
    ·have hd1:=hd.2 hc1
     obtain⟨lz,hlz⟩:∃ lz,lz=l-gT x.c:=⟨_,rfl⟩
     have HS:Hid (Calls Tryz.prog 70 #[.pointer (some ⟨r,0,none⟩),.agg L.toArray] Y2 fun e w'=>e=.returned (.int .i64 0)/\Row w' b2 zR 35/\Row w' b5 L 97/\∃ stk' qv',Lr wS hb r T gs n (.slice (some ⟨g,0,none⟩) N cp) C av ls ags rv iv rs inn w' stk' (st'.reverse) lz nx' an qv' (qs++q)):=by
      refine Calls.mono HSU.out ?_
      rintro e w' ⟨v',rfl,k,u⟩
      unfold UP at u
      rw[hstu] at u
      obtain⟨rfl,stk',qv',u⟩:=u
      rw[if_neg hc1,<-hlz] at u
      exact⟨rfl,k _ _ _ (by decide) (by decide) (by decide) (by decide) RBY.out,k _ _ _ (by decide) (by decide) (by decide) (by decide) R3.out,stk',qv',u⟩
     rw[<-hlz] at hd1
     have HRD2:Hid (Rd cl ags ls rs R Q G st' lz nx' (qs++q)):=hd1.1
     have HNX2:Hid (nx'<=N/\lz<l/\lz<=10000):=⟨by rw[HN.out];exact hd1.2.1,hd1.2.2,by have:=hd1.2.2;omega⟩
     obtain⟨xc,hxc⟩:∃ xc,xc=x.c:=⟨_,rfl⟩
     rw[<-hxc] at HCI
     have ex1:((xc:Int)==1)=false:=by simp;omega
     clear hd hd1 HDS hstu HSU hlz hc1 RBY hxc
     go_upto_region 6 with (first
      |(refine zaG rfl 97 (.tmp 5) rfl b5 0 rfl L _ R3.out.all Tryz.underlying97 rfl HI.out ?_;simp only[Act.put,jA,jB,jC])
      |(go_at_call 70;refine Calls.mono HS.out ?_;rintro e X2 ⟨rfl,q1,q2,stk2,qv2,q3⟩;have RB2:Hid (Row X2 b2 zR 35):=q1;have R5:Hid (Row X2 b5 L 97):=q2;have HR2:Hid (Lr wS hb r T gs n (.slice (some ⟨g,0,none⟩) N cp) C av ls ags rv iv rs inn X2 stk2 (st'.reverse) lz nx' an qv2 (qs++q)):=q3;clear q1 q2 q3))
     have ci0:X2.cell? ⟨b5,0,none⟩=some (.int .i64 (xc:Int)):=R5.out.cell 0 _ HCI.out
     have c532:X2.cell? ⟨r,53,none⟩=some (.int .i64 (lz:Int)):=HR2.out.row.1.cell 53 _ (zbX HR2.out.row.2 2)
     have HD:Hid _:=HM.out X2 lz HNX2.out.2.1 c532
     clear c532 HS R3 R5 HI
     go_wp2_with fail
     exact⟨⟨nx',lz,st',stk2,qv2,an,qs++q,HR2,RB2,HRD2,HNX2.out.1,HNX2.out.2.2⟩,HD.out⟩
  ·have hN2:nx=N:=by omega
   obtain⟨⟨f,Qf,h1,h2,h3⟩,_⟩:=HRD.out
   obtain⟨f',rfl⟩:∃ f',f=f'+1:=⟨f-1,by omega⟩
   unfold ev2 at h1
   rw[List.getElem?_eq_none (by rw[<-HN.out];omega)] at h1
   simp only[Prod.mk.injEq] at h1
   have HD:Hid (R=.error 106/\Q=qs++[]):=⟨h1.1.symm,by rw[h2,<-h1.2]⟩
   have hNx:((nx:Int)==(N:Int))=true:=by simp;omega
   have HF2:Hid (∃ qv',Hst wr hb rv qv' iv rs (qs++[]) inn/\Gro (·=hb) wS wr):=⟨_,by rw[List.append_nil];exact HR1.out.hst,HR1.out.gro⟩
   clear h1 h2 h3 hN2 HRD hlt
   go_wp2_with (refine zaD rfl 35 (.tmp 2) (.tmp 19) rfl b2 zR zR 35 rfl rfl RB1.out rfl zaP zcW ?_;intro X9 (E9:Hid (X9=_)) (R9:Hid (Row X9 b2 zR 35));simp only[Act.put])
   rw[Exit.noGoto_ret]
   have hG9:Gro (·=b2) wr X9:=by rw[E9.out];exact zbB b2 _ 0 wr wr (Gro.refl _ wr)
   have hr:=HRR.out
   rw[HD.out.1] at hr
   obtain⟨hv1,hv2⟩:=Prod.mk.inj hr
   refine bodyPost_ret (zaO Tryz.results28 _ _ b2 35 zR (.int .i64 106) rfl rfl R9.out Tryz.underlying35 zaP) rfl ?_
   exact⟨by rw[<-hv1,<-hv2],ends HF2.out hG9 RB1.out HB2.out (Nat.lt_of_lt_of_le HLTB.out HB2.out) HD.out.2⟩
theorem ztS {d:List (BitVec 8)}:∀ {f p:Nat} {ls:List Ins},pg d f p=some ls->∀ x ∈ ls,x.p<d.length/\∃ s,ri (d.drop x.p)=some (x.c,x.a,x.n,s)
 |0,_,_,h=>by cases h
 |f+1,p,ls,h=>by
  by_cases hp:d.length<=p
  ·rw[zjL hp] at h
   obtain rfl:=Option.some.inj h
   intro x hx
   cases hx
  ·cases hri:ri (d.drop p) with
   |none=>rw[zfT (by omega) hri] at h;cases h
   |some y=>
    obtain⟨c,a,m,z⟩:=y
    rw[zfU (by omega) hri] at h
    cases hr:pg d f (p+z) with
    |none=>rw[hr] at h;cases h
    |some r=>
     rw[hr] at h
     simp only[Option.map_some,Option.some.injEq] at h
     subst h
     intro x hx
     rcases List.mem_cons.1 hx with rfl|hx
     ·exact⟨by show p<_;omega,z,hri⟩
     ·exact ztS hr x hx
theorem zoY {b:List (BitVec 8)} {c a n s:Nat} (h:ri b=some (c,a,n,s)):∃ x r,b=x :: r/\x.toNat=c/\ow (zaZ c) r<=r.length/\ro (zaZ c) (r.take (ow (zaZ c) r))=some (a,n):=by
 cases b with
 |nil=>cases h
 |cons x r=>
  unfold ri at h
  simp only at h
  split at h
  ·cases h
  ·split at h
   ·cases h
   ·split at h
    ·cases h
    ·rename_i h1 h2 _ _ _ h3
     simp only[Option.some.injEq,Prod.mk.injEq] at h
     obtain⟨rfl,rfl,rfl,rfl⟩:=h
     exact⟨x,r,rfl,rfl,by omega,h3⟩
theorem zzD {b:List (BitVec 8)} {c a n s:Nat} (h:ri b=some (c,a,n,s)):(c=4->n<=15)/\(c=5->1<=n/\n<=15)/\(c=16->n<=1000):=by
 obtain⟨x,r,rfl,hx,hl,ho⟩:=zoY h
 unfold ro at ho
 refine⟨fun hc=>?_,fun hc=>?_,fun hc=>?_⟩
 ·rw[hc,show zaZ 4=2 from rfl,if_neg (by decide),show lo 2=0 from rfl,show hi 2=15 from rfl] at ho
  split at ho
  ·cases ho
  ·rw[if_neg (by decide),if_neg (by decide)] at ho
   simp only[Option.some.injEq,Prod.mk.injEq] at ho
   omega
 ·rw[hc,show zaZ 5=3 from rfl,if_neg (by decide),show lo 3=1 from rfl,show hi 3=15 from rfl] at ho
  split at ho
  ·cases ho
  ·rw[if_neg (by decide),if_neg (by decide)] at ho
   simp only[Option.some.injEq,Prod.mk.injEq] at ho
   omega
 ·rw[hc,show zaZ 16=4 from rfl,if_neg (by decide),show lo 4=0 from rfl,show hi 4=255 from rfl] at ho
  split at ho
  ·cases ho
  ·rw[if_neg (by decide),if_neg (by decide)] at ho
   simp only[Option.some.injEq,Prod.mk.injEq] at ho
   omega
theorem pg_len {d:List (BitVec 8)}:∀ {f p:Nat} {ls:List Ins},pg d f p=some ls->p<=d.length->ls.length+p<=d.length
 |0,_,_,h,_=>by cases h
 |f+1,p,ls,h,hp0=>by
  by_cases hp:d.length<=p
  ·rw[zjL hp] at h
   obtain rfl:=Option.some.inj h
   simpa using hp0
  ·cases hri:ri (d.drop p) with
   |none=>rw[zfT (by omega) hri] at h;cases h
   |some y=>
    obtain⟨c,a,m,z⟩:=y
    have hz:=zfW hri
    rw[List.length_drop] at hz
    rw[zfU (by omega) hri] at h
    cases hr:pg d f (p+z) with
    |none=>rw[hr] at h;cases h
    |some r=>
     rw[hr] at h
     simp only[Option.map_some,Option.some.injEq] at h
     subst h
     have:=pg_len hr (by omega)
     rw[List.length_cons]
     omega
theorem zlB {d:List (BitVec 8)} {ls:List Ins} (h:chk d=some ls):0<ls.length/\ls.length<=1024/\PgOk d.length ls/\(∀ y ∈ ls,y.a<2 ^ 256)/\(∀ y ∈ ls,y.c=14\/y.c=15->stf ls y.n≠0)/\0<d.length/\d.length<=1024:=by
 unfold chk at h
 split at h
 ·cases h
 rename_i hl
 cases hp:pg d (d.length+1) 0 with
 |none=>rw[hp] at h;cases h
 |some l=>
  rw[hp] at h
  simp only at h
  split at h
  ·rename_i hle
   obtain rfl:=Option.some.inj h
   have hlen:=pg_len hp (Nat.zero_le _)
   have hmem:=ztS hp
   have h0:0<l.length:=by
    cases hri:ri (d.drop 0) with
    |none=>rw[zfT (by omega) hri] at hp;cases hp
    |some y=>
     obtain⟨c,a,m,z⟩:=y
     rw[zfU (by omega) hri] at hp
     cases hr:pg d d.length (0+z) with
     |none=>rw[hr] at hp;cases hp
     |some r=>
      rw[hr] at hp
      simp only[Option.map_some,Option.some.injEq] at hp
      rw[<-hp]
      simp
   have hj:∀ y ∈ l,y.c=14\/y.c=15->l.any (fun j=>j.p==y.n)=true:=fun y hy hc=>by
    unfold zhD at hle
    have:=List.all_eq_true.1 hle y hy
    have ho:zaZ y.c=5:=by rcases hc with hc|hc <;> rw[hc] <;> rfl
    simpa [ho] using this
   refine⟨h0,by omega,fun y hy=>?_,fun y hy=>?_,fun y hy hc=>(znM l y.n).2 (hj y hy hc),by omega,by omega⟩
   ·obtain⟨_,s,hs⟩:=hmem y hy
    have h1:=zfW hs
    have h2:=zzD hs
    refine⟨h1.1,h2.1,h2.2.1,fun hc=>?_,h2.2.2⟩
    have ha:=hj y hy hc
    have hp0:=(znM l y.n).2 ha
    have hsl:=stf_le l y.n
    obtain⟨j,hj1,hj2⟩:=List.any_eq_true.1 ha
    have hj3:j.p=y.n:=by simpa using hj2
    have:=(hmem j hj1).1
    exact⟨by omega,stf l y.n-1,by omega,by omega⟩
   ·obtain⟨_,s,hs⟩:=hmem y hy
    exact (zuB hs).2
  ·cases h
structure Ca where
 sf:List (BitVec 8)
 cr:List (BitVec 8)
 tok:Int
 amt:Nat
 tm:Int
 gas:Int
def Ca.cl (c:Ca):Cl:=⟨c.sf,c.cr,c.tok.toNat,c.amt,c.tm.toNat⟩
def Ca.cs (c:Ca) (v:Value):List Value:=vB c.sf++(vB c.cr++(.int .i64 c.tok :: (wq c.amt++[v,.int .i64 c.tm,.int .i64 c.gas])))
structure Ca.Wf (c:Ca):Prop where
 l1:c.sf.length=20
 l2:c.cr.length=20
 amt:c.amt<2 ^ 256
theorem zcV (l:List (BitVec 8)):(vB l).length=l.length:=by simp [vB]
theorem Ca.len {c:Ca} (h:c.Wf) (v:Value):(c.cs v).length=48:=by
 unfold Ca.cs
 simp only[List.length_append,List.length_cons,zcV,h.l1,h.l2,zaV,List.length_nil]
theorem Ca.hi {c:Ca} (h:c.Wf) (v:Value) (j:Nat):(c.cs v)[40+j]?=(Value.int .i64 c.tok :: (wq c.amt++[v,.int .i64 c.tm,.int .i64 c.gas]))[j]?:=by
 unfold Ca.cs
 rw[List.getElem?_append_right (by rw[zcV,h.l1];omega),List.getElem?_append_right (by rw[zcV,zcV,h.l1,h.l2];omega),zcV,zcV,h.l1,h.l2,show 40+j-20-20=j by omega]
theorem Ca.at40 {c:Ca} (h:c.Wf) (v:Value):(c.cs v)[40]?=some (.int .i64 c.tok):=Ca.hi h v 0
theorem Ca.top {c:Ca} (h:c.Wf) (v:Value) (j:Nat):(c.cs v)[45+j]?=[v,.int .i64 c.tm,.int .i64 c.gas][j]?:=by
 rw[show 45+j=40+((j+4)+1) by omega,Ca.hi h v,List.getElem?_cons_succ,List.getElem?_append_right (by rw[zaV];omega),zaV,Nat.add_sub_cancel]
theorem Ca.at45 {c:Ca} (h:c.Wf) (v:Value):(c.cs v)[45]?=some v:=Ca.top h v 0
theorem Ca.at46 {c:Ca} (h:c.Wf) (v:Value):(c.cs v)[46]?=some (.int .i64 c.tm):=Ca.top h v 1
theorem Ca.at47 {c:Ca} (h:c.Wf) (v:Value):(c.cs v)[47]?=some (.int .i64 c.gas):=Ca.top h v 2
theorem Ca.set45 {c:Ca} (h:c.Wf) (v:Value) (u:Value):(c.cs v).set 45 u=c.cs u:=by
 unfold Ca.cs
 rw[List.set_append,if_neg (by rw[zcV,h.l1];decide),List.set_append,if_neg (by rw[zcV,zcV,h.l1,h.l2];decide),zcV,zcV,h.l1,h.l2,show 45-20-20=4+1 by decide,jC,List.set_append,if_neg (by rw[zaV];decide),zaV]
 rfl
theorem Ca.one {c:Ca} (v:Value) (hv:v.oneCell'=true):(c.cs v).toArray.all (·.oneCell')=true:=by
 rw[<-Array.all_toList]
 unfold Ca.cs
 have hb:∀ l:List (BitVec 8),(vB l).all (·.oneCell')=true:=fun l=>List.all_eq_true.2 fun u hu=>by
  obtain⟨x,_,rfl⟩:=List.mem_map.1 hu
  rfl
 have hw:=zbH c.amt
 rw[<-Array.all_toList] at hw
 simp only[List.all_append,List.all_cons,List.all_nil,hb,hv,Bool.and_true,Bool.true_and]
 rw[hw]
 rfl
theorem Ca.inC {c:Ca} (h:c.Wf) (v:Value) (h1:0<=c.tok) (h2:c.tok<64) (h3:0<=c.tm) (h4:c.tm<=4611686018427387904):c.cl.In (c.cs v):=by
 refine⟨h.l1,h.l2,fun j u hj=>?_,fun j u hj=>?_,?_,?_,fun j u hj=>?_,h.amt,?_,?_⟩
 ·replace hj:(vB c.sf)[j]?=some u:=hj
  rw[Nat.zero_add]
  unfold Ca.cs
  rw[List.getElem?_append_left (List.getElem?_eq_some_iff.1 hj).1]
  exact hj
 ·replace hj:(vB c.cr)[j]?=some u:=hj
  unfold Ca.cs
  rw[List.getElem?_append_right (by rw[zcV,h.l1];omega),zcV,h.l1,Nat.add_sub_cancel_left,List.getElem?_append_left (List.getElem?_eq_some_iff.1 hj).1]
  exact hj
 ·rw[Ca.at40 h v]
  show some (Value.int .i64 c.tok)=some (.int .i64 ((c.tok.toNat:Nat):Int))
  rw[Int.toNat_of_nonneg h1]
 ·show c.tok.toNat<_
  omega
 ·replace hj:(wq c.amt)[j]?=some u:=hj
  rw[show 41+j=40+(j+1) by omega,Ca.hi h v,List.getElem?_cons_succ,List.getElem?_append_left (List.getElem?_eq_some_iff.1 hj).1]
  exact hj
 ·rw[Ca.at46 h v]
  show some (Value.int .i64 c.tm)=some (.int .i64 ((c.tm.toNat:Nat):Int))
  rw[Int.toNat_of_nonneg h3]
 ·show c.tm.toNat<_
  omega
def Ca.may (c:Ca) (na:Nat):Prop:=0<=c.tok/\c.tok<64/\na<=8/\0<=c.tm/\c.tm<=4611686018427387904/\1<=c.gas/\c.gas<=10000
theorem ziB (C:List Value) (A:Option Addr) (n c:Nat) (tok tm gas:Int) (h0:C[40]?=some (.int .i64 tok)) (h1:C[45]?=some (.slice A n c)) (h2:C[46]?=some (.int .i64 tm)) (h3:C[47]?=some (.int .i64 gas)) (w:World) :
 ((0<=tok/\tok<64/\n<=8/\0<=tm/\tm<=4611686018427387904/\1<=gas/\gas<=10000)->Calls Tryz.prog 26 #[.agg C.toArray] w fun e w'=>e=.returned (.bool true)/\Below w.heap.size w w')/\(¬ (0<=tok/\tok<64/\n<=8/\0<=tm/\tm<=4611686018427387904/\1<=gas/\gas<=10000)->Calls Tryz.prog 26 #[.agg C.toArray] w fun e w'=>e=.returned (.bool false)/\Below w.heap.size w w'):=by
 have H0:Hid (C[40]?=some (.int .i64 tok)):=h0
 have H1:Hid (C[45]?=some (.slice A n c)):=h1
 have H2:Hid (C[46]?=some (.int .i64 tm)):=h2
 have H3:Hid (C[47]?=some (.int .i64 gas)):=h3
 clear h0 h1 h2 h3
 refine⟨fun hm=>?_,fun hm=>?_⟩
 ·obtain⟨k1,k2,k3,k4,k5,k6,k7⟩:=hm
  have t0:¬ (tok<0):=by omega
  have t1:¬ (64<=tok):=by omega
  have t1a:tok<64:=by omega
  have n0:¬ ((8:Int)<(n:Int)):=by omega
  have n0a:(n:Int)<=8:=by omega
  have m0:¬ (tm<0):=by omega
  have m1:¬ (4611686018427387904<tm):=by omega
  have m1a:decide (4611686018427387904<tm)=false:=by simp;omega
  go_enter Tryz.func26,Tryz.ntmps26
  go_upto_region 1 with (refine zaF 30 rfl (.tmp 0) rfl C rfl ?_;intro X q1 q2 q3;have c0:=q1.cell 40 _ H0.out;have c1:=q1.cell 45 _ H1.out;have c2:=q1.cell 46 _ H2.out;have c3:=q1.cell 47 _ H3.out;have B1:Hid (Below w.heap.size w X):=q2;clear q1 q2 q3;simp only[Act.put,jA,jB,jC])
  go_wp2
  go_ret
  exact⟨rfl,B1.out⟩
 ·by_cases a1:tok<0
  ·clear hm
   go_enter Tryz.func26,Tryz.ntmps26
   go_upto_region 1 with (refine zaF 30 rfl (.tmp 0) rfl C rfl ?_;intro X q1 q2 q3;have c0:=q1.cell 40 _ H0.out;have c1:=q1.cell 45 _ H1.out;have c2:=q1.cell 46 _ H2.out;have c3:=q1.cell 47 _ H3.out;have B1:Hid (Below w.heap.size w X):=q2;clear q1 q2 q3;simp only[Act.put,jA,jB,jC])
   go_wp2
   go_ret
   exact⟨rfl,B1.out⟩
  by_cases a2:64<=tok
  ·clear hm
   have t0:¬ (tok<0):=by omega
   go_enter Tryz.func26,Tryz.ntmps26
   go_upto_region 1 with (refine zaF 30 rfl (.tmp 0) rfl C rfl ?_;intro X q1 q2 q3;have c0:=q1.cell 40 _ H0.out;have c1:=q1.cell 45 _ H1.out;have c2:=q1.cell 46 _ H2.out;have c3:=q1.cell 47 _ H3.out;have B1:Hid (Below w.heap.size w X):=q2;clear q1 q2 q3;simp only[Act.put,jA,jB,jC])
   go_wp2
   go_ret
   exact⟨rfl,B1.out⟩
  by_cases a3:8<n
  ·clear hm
   have t1a:tok<64:=by omega
   have n1:(8:Int)<(n:Int):=by omega
   go_enter Tryz.func26,Tryz.ntmps26
   go_upto_region 1 with (refine zaF 30 rfl (.tmp 0) rfl C rfl ?_;intro X q1 q2 q3;have c0:=q1.cell 40 _ H0.out;have c1:=q1.cell 45 _ H1.out;have c2:=q1.cell 46 _ H2.out;have c3:=q1.cell 47 _ H3.out;have B1:Hid (Below w.heap.size w X):=q2;clear q1 q2 q3;simp only[Act.put,jA,jB,jC])
   go_wp2
   go_ret
   exact⟨rfl,B1.out⟩
  by_cases a4:tm<0
  ·clear hm
   have t1a:tok<64:=by omega
   have n0:¬ ((8:Int)<(n:Int)):=by omega
   have n0a:(n:Int)<=8:=by omega
   go_enter Tryz.func26,Tryz.ntmps26
   go_upto_region 1 with (refine zaF 30 rfl (.tmp 0) rfl C rfl ?_;intro X q1 q2 q3;have c0:=q1.cell 40 _ H0.out;have c1:=q1.cell 45 _ H1.out;have c2:=q1.cell 46 _ H2.out;have c3:=q1.cell 47 _ H3.out;have B1:Hid (Below w.heap.size w X):=q2;clear q1 q2 q3;simp only[Act.put,jA,jB,jC])
   go_wp2
   go_ret
   exact⟨rfl,B1.out⟩
  by_cases a5:4611686018427387904<tm
  ·clear hm
   have t1a:tok<64:=by omega
   have n0:¬ ((8:Int)<(n:Int)):=by omega
   have n0a:(n:Int)<=8:=by omega
   have m2:decide (4611686018427387904<tm)=true:=by simpa using a5
   go_enter Tryz.func26,Tryz.ntmps26
   go_upto_region 1 with (refine zaF 30 rfl (.tmp 0) rfl C rfl ?_;intro X q1 q2 q3;have c0:=q1.cell 40 _ H0.out;have c1:=q1.cell 45 _ H1.out;have c2:=q1.cell 46 _ H2.out;have c3:=q1.cell 47 _ H3.out;have B1:Hid (Below w.heap.size w X):=q2;clear q1 q2 q3;simp only[Act.put,jA,jB,jC])
   go_wp2
   go_ret
   exact⟨rfl,B1.out⟩
  by_cases a6:1<=gas
  ·have a7:¬ (gas<=10000):=fun h=>hm ⟨by omega,by omega,by omega,by omega,by omega,a6,h⟩
   clear hm
   have t1a:tok<64:=by omega
   have n0:¬ ((8:Int)<(n:Int)):=by omega
   have n0a:(n:Int)<=8:=by omega
   have m1a:decide (4611686018427387904<tm)=false:=by simpa using a5
   go_enter Tryz.func26,Tryz.ntmps26
   go_upto_region 1 with (refine zaF 30 rfl (.tmp 0) rfl C rfl ?_;intro X q1 q2 q3;have c0:=q1.cell 40 _ H0.out;have c1:=q1.cell 45 _ H1.out;have c2:=q1.cell 46 _ H2.out;have c3:=q1.cell 47 _ H3.out;have B1:Hid (Below w.heap.size w X):=q2;clear q1 q2 q3;simp only[Act.put,jA,jB,jC])
   go_wp2
   go_ret
   exact⟨rfl,B1.out⟩
  ·clear hm
   have t1a:tok<64:=by omega
   have n0:¬ ((8:Int)<(n:Int)):=by omega
   have n0a:(n:Int)<=8:=by omega
   have m1a:decide (4611686018427387904<tm)=false:=by simpa using a5
   go_enter Tryz.func26,Tryz.ntmps26
   go_upto_region 1 with (refine zaF 30 rfl (.tmp 0) rfl C rfl ?_;intro X q1 q2 q3;have c0:=q1.cell 40 _ H0.out;have c1:=q1.cell 45 _ H1.out;have c2:=q1.cell 46 _ H2.out;have c3:=q1.cell 47 _ H3.out;have B1:Hid (Below w.heap.size w X):=q2;clear q1 q2 q3;simp only[Act.put,jA,jB,jC])
   go_wp2
   go_ret
   exact⟨rfl,B1.out⟩
theorem wnil_eq (w:World):(binOp .eql 28 (.slice none 0 0) (.slice none 0 0)).run Tryz.prog w=.ok (.bool true) w:=by
 have h1:∀ d,(Op.equalIn (d+1) 28 (.slice none 0 0) (.slice none 0 0)).run Tryz.prog w=.ok true w:=fun d=>by simp [Op.equalIn,run_underlying Tryz.underlying28]
 have h2:(Op.equal 28 (.slice none 0 0) (.slice none 0 0)).run Tryz.prog w=.ok true w:=h1 9999
 simp only[binOp]
 simp [h2]
def Agv (w:World) (v:Value) (ags:List Nat):Prop:=(v=.slice none 0 0/\ags=[])\/∃ g c,v=.slice (some ⟨g,0,none⟩) ags.length c/\w.rangeAt g 0 (fw ags)
theorem zlC (ags:List Nat) (hn:ags.length<=100) (v:Value) (w:World) (h:Agv w v ags):Calls Tryz.prog 27 #[v] w fun e w'=>∃ A c,e=.returned (.slice A ags.length c)/\Lw w' 27 4 (.slice A ags.length c) ags.length (fw ags)/\Below w.heap.size w w':=by
 rcases h with ⟨rfl,rfl⟩|⟨g,c,rfl,hr⟩
 ·have hq:=wnil_eq
  go_enter Tryz.func27,Tryz.ntmps27
  go_wp2
  go_ret
  exact⟨none,0,rfl,Lw.nil _ _ _,Below.refl _ _⟩
 ·refine Calls.mono (zjO ags hn g c w hr) ?_
  rintro e w' ⟨A,c',q1,q2,_,q3⟩
  exact⟨A,c',q1,q2,q3⟩
end Go.Proofs.YtedeobikfddmgaaGreat
