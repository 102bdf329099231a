import Derived.Test.YtedeobikfddmgaaGreatMkAA
import Derived.Test.YtedeobikfddmgaaGreatMkY
set_option maxRecDepth 100000
set_option maxHeartbeats 16000000
namespace Go.Proofs.YtedeobikfddmgaaGreat
open Go Go.RowKit
open Sha
open Wd
theorem zgJ (r T gs n:Nat) (pl:Value) (C:List Value) (h av stk:Value) (ss:List Nat) (l nx:Nat) (an:List Value) (ls:List Ins) (ags:List Nat) (z:Nat) (E:Int) (k0 w0 w:World) (H:Rn k0 w0 w r T gs n pl C h av stk ss l nx an ls ags) (hss:ss.length<=1000):Calls Tryz.prog 73 #[.pointer (some ⟨r,0,none⟩),.agg (wq z).toArray,.int .i64 E] w fun e w'=>∃ v,e=.returned (.int .i64 v)/\((E=0->v=0/\∃ stk',Rn k0 w0 w' r T gs n pl C h av stk' (ss++[z]) l nx an ls ags)/\(E≠0->v=104/\∃ stk',Rn k0 w0 w' r T gs n pl C h av stk' ss l nx an ls ags)):=by
 by_cases hE:E=0
 ·subst hE
  refine Calls.mono (zfP r T gs n pl C h av stk ss l nx an ls ags z k0 w0 w H hss) ?_
  rintro e w' ⟨rfl,q⟩
  exact⟨0,rfl,fun _=>⟨rfl,q⟩,fun h=>absurd rfl h⟩
 ·refine Calls.mono (ziY r T gs n pl C h av stk ss l nx an ls ags z E (by simpa using hE) k0 w0 w H) ?_
  rintro e w' ⟨rfl,q⟩
  exact⟨104,rfl,fun h=>absurd h hE,fun _=>⟨rfl,stk,q⟩⟩
theorem do_add (r T gs n:Nat) (pl:Value) (C:List Value) (h av stk:Value) (ss:List Nat) (l nx:Nat) (an:List Value) (ls:List Ins) (ags:List Nat) (I:List Value) (x y z:Nat) (E:Int) (hx:x<2 ^ 256) (hy:y<2 ^ 256) (hz:z=zvT x y) (hE:E=zvS x y) (k0 w0 w:World) (H:Rn k0 w0 w r T gs n pl C h av stk (ss++[x]++[y]) l nx an ls ags) (hss:ss.length<=900):Calls Tryz.prog 46 #[.pointer (some ⟨r,0,none⟩),.agg I.toArray] w fun e w'=>∃ v,e=.returned (.int .i64 v)/\((E=0->v=0/\∃ stk',Rn k0 w0 w' r T gs n pl C h av stk' (ss++[z]) l nx an ls ags)/\(E≠0->v=104/\∃ stk',Rn k0 w0 w' r T gs n pl C h av stk' ss l nx an ls ags)):=by
 obtain⟨LX,hLX⟩:∃ L,L=wq x:=⟨_,rfl⟩
 obtain⟨LY,hLY⟩:∃ L,L=wq y:=⟨_,rfl⟩
 obtain⟨LZ,hLZ⟩:∃ L,L=wq z:=⟨_,rfl⟩
 have HTT:Hid (∀ W,Rn k0 w0 W r T gs n pl C h av stk (ss++[x]++[y]) l nx an ls ags->Calls Tryz.prog 75 #[.pointer (some ⟨r,0,none⟩)] W fun e w'=>e=.returned (.tuple #[.agg LX.toArray,.agg LY.toArray])/\∃ stk',Rn k0 w0 w' r T gs n pl C h av stk' ss l nx an ls ags):=fun W hW=>by
  rw[hLX,hLY]
  refine Calls.mono (zbF r T gs n pl C h av stk ss l nx an ls ags x y k0 w0 W hW (by omega)) ?_
  rintro e w' ⟨q1,q2⟩
  obtain⟨_,_,stk2,q⟩:=q2
  exact⟨q1,stk2,q⟩
 have HOP:Hid (∀ W,Calls Tryz.prog 74 #[.agg LX.toArray,.agg LY.toArray] W fun e w'=>e=.returned (.tuple #[.agg LZ.toArray,.int .i64 E])/\Below W.heap.size W w'):=fun W=>by
  rw[hLX,hLY,hLZ,hz,hE]
  exact zrE x y hx hy W
 have HLR:Hid (∀ stk' W,Rn k0 w0 W r T gs n pl C h av stk' ss l nx an ls ags->Calls Tryz.prog 73 #[.pointer (some ⟨r,0,none⟩),.agg LZ.toArray,.int .i64 E] W fun e w'=>∃ v,e=.returned (.int .i64 v)/\((E=0->v=0/\∃ stk',Rn k0 w0 w' r T gs n pl C h av stk' (ss++[z]) l nx an ls ags)/\(E≠0->v=104/\∃ stk',Rn k0 w0 w' r T gs n pl C h av stk' ss l nx an ls ags))):=fun stk' W hW=>by rw[hLZ];exact zgJ r T gs n pl C h av stk' ss l nx an ls ags z E k0 w0 W hW (by omega)
 have HH:Hid (Rn k0 w0 w r T gs n pl C h av stk (ss++[x]++[y]) l nx an ls ags):=H
 clear H hss hLX hLY hLZ hx hy hz hE
 go_enter Tryz.func46,Tryz.ntmps46
 go_wp2_with (first
  |(refine zaF 97 rfl (.tmp 1) rfl I rfl ?_;intro X1 q1 q2 q3;have HR:Hid (Rn k0 w0 X1 r T gs n pl C h av stk (ss++[x]++[y]) l nx an ls ags):=HH.out.keep q2;clear q1 q2 q3;simp only[Act.put,jA,jB,jC])
  |(go_at_call 75;refine Calls.mono (HTT.out X1 HR.out) ?_;rintro e X2 ⟨rfl,stk2,q⟩;have HR2:Hid (Rn k0 w0 X2 r T gs n pl C h av stk2 ss l nx an ls ags):=q;clear q)
  |(go_at_call 74;refine Calls.mono (HOP.out X2) ?_;rintro e X3 ⟨rfl,q⟩;have HR3:Hid (Rn k0 w0 X3 r T gs n pl C h av stk2 ss l nx an ls ags):=HR2.out.keep q;clear q)
  |(go_at_call 73;refine Calls.mono (HLR.out stk2 X3 HR3.out) ?_;rintro e X9 ⟨v,rfl,q⟩;have HQ:Hid ((E=0->v=0/\∃ stk',Rn k0 w0 X9 r T gs n pl C h av stk' (ss++[z]) l nx an ls ags)/\(E≠0->v=104/\∃ stk',Rn k0 w0 X9 r T gs n pl C h av stk' ss l nx an ls ags)):=q;clear q))
 go_ret
 exact⟨_,rfl,HQ.out⟩
theorem do_sub (r T gs n:Nat) (pl:Value) (C:List Value) (h av stk:Value) (ss:List Nat) (l nx:Nat) (an:List Value) (ls:List Ins) (ags:List Nat) (I:List Value) (x y z:Nat) (E:Int) (hx:x<2 ^ 256) (hy:y<2 ^ 256) (hz:z=zvV x y) (hE:E=zuT x y) (k0 w0 w:World) (H:Rn k0 w0 w r T gs n pl C h av stk (ss++[x]++[y]) l nx an ls ags) (hss:ss.length<=900):Calls Tryz.prog 47 #[.pointer (some ⟨r,0,none⟩),.agg I.toArray] w fun e w'=>∃ v,e=.returned (.int .i64 v)/\((E=0->v=0/\∃ stk',Rn k0 w0 w' r T gs n pl C h av stk' (ss++[z]) l nx an ls ags)/\(E≠0->v=104/\∃ stk',Rn k0 w0 w' r T gs n pl C h av stk' ss l nx an ls ags)):=by
 obtain⟨LX,hLX⟩:∃ L,L=wq x:=⟨_,rfl⟩
 obtain⟨LY,hLY⟩:∃ L,L=wq y:=⟨_,rfl⟩
 obtain⟨LZ,hLZ⟩:∃ L,L=wq z:=⟨_,rfl⟩
 have HTT:Hid (∀ W,Rn k0 w0 W r T gs n pl C h av stk (ss++[x]++[y]) l nx an ls ags->Calls Tryz.prog 75 #[.pointer (some ⟨r,0,none⟩)] W fun e w'=>e=.returned (.tuple #[.agg LX.toArray,.agg LY.toArray])/\∃ stk',Rn k0 w0 w' r T gs n pl C h av stk' ss l nx an ls ags):=fun W hW=>by
  rw[hLX,hLY]
  refine Calls.mono (zbF r T gs n pl C h av stk ss l nx an ls ags x y k0 w0 W hW (by omega)) ?_
  rintro e w' ⟨q1,q2⟩
  obtain⟨_,_,stk2,q⟩:=q2
  exact⟨q1,stk2,q⟩
 have HOP:Hid (∀ W,Calls Tryz.prog 76 #[.agg LX.toArray,.agg LY.toArray] W fun e w'=>e=.returned (.tuple #[.agg LZ.toArray,.int .i64 E])/\Below W.heap.size W w'):=fun W=>by
  rw[hLX,hLY,hLZ,hz,hE]
  exact zuU x y hx hy W
 have HLR:Hid (∀ stk' W,Rn k0 w0 W r T gs n pl C h av stk' ss l nx an ls ags->Calls Tryz.prog 73 #[.pointer (some ⟨r,0,none⟩),.agg LZ.toArray,.int .i64 E] W fun e w'=>∃ v,e=.returned (.int .i64 v)/\((E=0->v=0/\∃ stk',Rn k0 w0 w' r T gs n pl C h av stk' (ss++[z]) l nx an ls ags)/\(E≠0->v=104/\∃ stk',Rn k0 w0 w' r T gs n pl C h av stk' ss l nx an ls ags))):=fun stk' W hW=>by rw[hLZ];exact zgJ r T gs n pl C h av stk' ss l nx an ls ags z E k0 w0 W hW (by omega)
 have HH:Hid (Rn k0 w0 w r T gs n pl C h av stk (ss++[x]++[y]) l nx an ls ags):=H
 clear H hss hLX hLY hLZ hx hy hz hE
 go_enter Tryz.func47,Tryz.ntmps47
 go_wp2_with (first
  |(refine zaF 97 rfl (.tmp 1) rfl I rfl ?_;intro X1 q1 q2 q3;have HR:Hid (Rn k0 w0 X1 r T gs n pl C h av stk (ss++[x]++[y]) l nx an ls ags):=HH.out.keep q2;clear q1 q2 q3;simp only[Act.put,jA,jB,jC])
  |(go_at_call 75;refine Calls.mono (HTT.out X1 HR.out) ?_;rintro e X2 ⟨rfl,stk2,q⟩;have HR2:Hid (Rn k0 w0 X2 r T gs n pl C h av stk2 ss l nx an ls ags):=q;clear q)
  |(go_at_call 76;refine Calls.mono (HOP.out X2) ?_;rintro e X3 ⟨rfl,q⟩;have HR3:Hid (Rn k0 w0 X3 r T gs n pl C h av stk2 ss l nx an ls ags):=HR2.out.keep q;clear q)
  |(go_at_call 73;refine Calls.mono (HLR.out stk2 X3 HR3.out) ?_;rintro e X9 ⟨v,rfl,q⟩;have HQ:Hid ((E=0->v=0/\∃ stk',Rn k0 w0 X9 r T gs n pl C h av stk' (ss++[z]) l nx an ls ags)/\(E≠0->v=104/\∃ stk',Rn k0 w0 X9 r T gs n pl C h av stk' ss l nx an ls ags)):=q;clear q))
 go_ret
 exact⟨_,rfl,HQ.out⟩
theorem do_mul (r T gs n:Nat) (pl:Value) (C:List Value) (h av stk:Value) (ss:List Nat) (l nx:Nat) (an:List Value) (ls:List Ins) (ags:List Nat) (I:List Value) (x y z:Nat) (E:Int) (hx:x<2 ^ 256) (hy:y<2 ^ 256) (hz:z=zyU x y) (hE:E=zyT x y) (k0 w0 w:World) (H:Rn k0 w0 w r T gs n pl C h av stk (ss++[x]++[y]) l nx an ls ags) (hss:ss.length<=900):Calls Tryz.prog 48 #[.pointer (some ⟨r,0,none⟩),.agg I.toArray] w fun e w'=>∃ v,e=.returned (.int .i64 v)/\((E=0->v=0/\∃ stk',Rn k0 w0 w' r T gs n pl C h av stk' (ss++[z]) l nx an ls ags)/\(E≠0->v=104/\∃ stk',Rn k0 w0 w' r T gs n pl C h av stk' ss l nx an ls ags)):=by
 obtain⟨LX,hLX⟩:∃ L,L=wq x:=⟨_,rfl⟩
 obtain⟨LY,hLY⟩:∃ L,L=wq y:=⟨_,rfl⟩
 obtain⟨LZ,hLZ⟩:∃ L,L=wq z:=⟨_,rfl⟩
 have HTT:Hid (∀ W,Rn k0 w0 W r T gs n pl C h av stk (ss++[x]++[y]) l nx an ls ags->Calls Tryz.prog 75 #[.pointer (some ⟨r,0,none⟩)] W fun e w'=>e=.returned (.tuple #[.agg LX.toArray,.agg LY.toArray])/\∃ stk',Rn k0 w0 w' r T gs n pl C h av stk' ss l nx an ls ags):=fun W hW=>by
  rw[hLX,hLY]
  refine Calls.mono (zbF r T gs n pl C h av stk ss l nx an ls ags x y k0 w0 W hW (by omega)) ?_
  rintro e w' ⟨q1,q2⟩
  obtain⟨_,_,stk2,q⟩:=q2
  exact⟨q1,stk2,q⟩
 have HOP:Hid (∀ W,Calls Tryz.prog 77 #[.agg LX.toArray,.agg LY.toArray] W fun e w'=>e=.returned (.tuple #[.agg LZ.toArray,.int .i64 E])/\Below W.heap.size W w'):=fun W=>by
  rw[hLX,hLY,hLZ,hz,hE]
  exact mul_any x y hx hy W
 have HLR:Hid (∀ stk' W,Rn k0 w0 W r T gs n pl C h av stk' ss l nx an ls ags->Calls Tryz.prog 73 #[.pointer (some ⟨r,0,none⟩),.agg LZ.toArray,.int .i64 E] W fun e w'=>∃ v,e=.returned (.int .i64 v)/\((E=0->v=0/\∃ stk',Rn k0 w0 w' r T gs n pl C h av stk' (ss++[z]) l nx an ls ags)/\(E≠0->v=104/\∃ stk',Rn k0 w0 w' r T gs n pl C h av stk' ss l nx an ls ags))):=fun stk' W hW=>by rw[hLZ];exact zgJ r T gs n pl C h av stk' ss l nx an ls ags z E k0 w0 W hW (by omega)
 have HH:Hid (Rn k0 w0 w r T gs n pl C h av stk (ss++[x]++[y]) l nx an ls ags):=H
 clear H hss hLX hLY hLZ hx hy hz hE
 go_enter Tryz.func48,Tryz.ntmps48
 go_wp2_with (first
  |(refine zaF 97 rfl (.tmp 1) rfl I rfl ?_;intro X1 q1 q2 q3;have HR:Hid (Rn k0 w0 X1 r T gs n pl C h av stk (ss++[x]++[y]) l nx an ls ags):=HH.out.keep q2;clear q1 q2 q3;simp only[Act.put,jA,jB,jC])
  |(go_at_call 75;refine Calls.mono (HTT.out X1 HR.out) ?_;rintro e X2 ⟨rfl,stk2,q⟩;have HR2:Hid (Rn k0 w0 X2 r T gs n pl C h av stk2 ss l nx an ls ags):=q;clear q)
  |(go_at_call 77;refine Calls.mono (HOP.out X2) ?_;rintro e X3 ⟨rfl,q⟩;have HR3:Hid (Rn k0 w0 X3 r T gs n pl C h av stk2 ss l nx an ls ags):=HR2.out.keep q;clear q)
  |(go_at_call 73;refine Calls.mono (HLR.out stk2 X3 HR3.out) ?_;rintro e X9 ⟨v,rfl,q⟩;have HQ:Hid ((E=0->v=0/\∃ stk',Rn k0 w0 X9 r T gs n pl C h av stk' (ss++[z]) l nx an ls ags)/\(E≠0->v=104/\∃ stk',Rn k0 w0 X9 r T gs n pl C h av stk' ss l nx an ls ags)):=q;clear q))
 go_ret
 exact⟨_,rfl,HQ.out⟩
end Go.Proofs.YtedeobikfddmgaaGreat
