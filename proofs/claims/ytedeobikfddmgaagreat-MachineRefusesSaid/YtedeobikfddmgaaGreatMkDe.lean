import Derived.Test.YtedeobikfddmgaaGreatMkAA
import Derived.Test.YtedeobikfddmgaaGreatMkDa
set_option maxRecDepth 100000
set_option maxHeartbeats 16000000
namespace Go.Proofs.YtedeobikfddmgaaGreat
open Go Go.RowKit
open Sha
open Wd
theorem do_div (r T gs n:Nat) (pl:Value) (C:List Value) (h av stk:Value) (ss:List Nat) (l nx:Nat) (an:List Value) (ls:List Ins) (ags:List Nat) (I:List Value) (x y z:Nat) (E:Int) (hx:x<2 ^ 256) (hy:y<2 ^ 256) (hz:z=zsD x y) (hE:E=zmP y) (k0 w0 w:World) (H:Rn k0 w0 w r T gs n pl C h av stk (ss++[x]++[y]) l nx an ls ags) (hss:ss.length<=900):Calls Tryz.prog 49 #[.pointer (some ⟨r,0,none⟩),.agg I.toArray] w fun e w'=>∃ v,e=.returned (.int .i64 v)/\((E=0->v=0/\∃ stk',Rn k0 w0 w' r T gs n pl C h av stk' (ss++[z]) l nx an ls ags)/\(E≠0->v=104/\∃ stk',Rn k0 w0 w' r T gs n pl C h av stk' ss l nx an ls ags)):=by
 obtain⟨LX,hLX⟩:∃ L,L=wq x:=⟨_,rfl⟩
 obtain⟨LY,hLY⟩:∃ L,L=wq y:=⟨_,rfl⟩
 obtain⟨LZ,hLZ⟩:∃ L,L=wq z:=⟨_,rfl⟩
 obtain⟨L5,hL5⟩:∃ L,L=wq (zsD x y):=⟨_,rfl⟩
 obtain⟨L6,hL6⟩:∃ L,L=wq (zsE x y):=⟨_,rfl⟩
 have hLL:LZ=L5:=by rw[hLZ,hL5,hz]
 have HTT:Hid (∀ W,Rn k0 w0 W r T gs n pl C h av stk (ss++[x]++[y]) l nx an ls ags->Calls Tryz.prog 75 #[.pointer (some ⟨r,0,none⟩)] W fun e w'=>e=.returned (.tuple #[.agg LX.toArray,.agg LY.toArray])/\∃ stk',Rn k0 w0 w' r T gs n pl C h av stk' ss l nx an ls ags):=fun W hW=>by
  rw[hLX,hLY]
  refine Calls.mono (zbF r T gs n pl C h av stk ss l nx an ls ags x y k0 w0 W hW (by omega)) ?_
  rintro e w' ⟨q1,q2⟩
  obtain⟨_,_,stk2,q⟩:=q2
  exact⟨q1,stk2,q⟩
 have HOP:Hid (∀ W,Calls Tryz.prog 78 #[.agg LX.toArray,.agg LY.toArray] W fun e w'=>e=.returned (.tuple #[.agg L5.toArray,.agg L6.toArray,.int .i64 E])/\Below W.heap.size W w'):=fun W=>by
  rw[hLX,hLY,hL5,hL6,hE]
  exact zsF x y hx hy W
 have HLR:Hid (∀ stk' W,Rn k0 w0 W r T gs n pl C h av stk' ss l nx an ls ags->Calls Tryz.prog 73 #[.pointer (some ⟨r,0,none⟩),.agg L5.toArray,.int .i64 E] W fun e w'=>∃ v,e=.returned (.int .i64 v)/\((E=0->v=0/\∃ stk',Rn k0 w0 w' r T gs n pl C h av stk' (ss++[z]) l nx an ls ags)/\(E≠0->v=104/\∃ stk',Rn k0 w0 w' r T gs n pl C h av stk' ss l nx an ls ags))):=fun stk' W hW=>by rw[hL5,<-hz];exact zgJ r T gs n pl C h av stk' ss l nx an ls ags z E k0 w0 W hW (by omega)
 have HI5:Hid ((Tryz.prog.info? 27).map (·.size)=some L5.length/\L5.length=zW.length/\L5.toArray.all (·.oneCell')=true):=by rw[hL5];exact⟨zaU _,zaV _,zbH _⟩
 have HI6:Hid ((Tryz.prog.info? 27).map (·.size)=some L6.length/\L6.length=zW.length/\L6.toArray.all (·.oneCell')=true):=by rw[hL6];exact⟨zaU _,zaV _,zbH _⟩
 have HH:Hid (Rn k0 w0 w r T gs n pl C h av stk (ss++[x]++[y]) l nx an ls ags):=H
 clear H hss hLX hLY hLL hLZ hL5 hL6 hx hy hz hE
 go_enter Tryz.func49,Tryz.ntmps49
 go_upto_region 2 with (first
  |(refine zaF 97 rfl (.tmp 1) rfl I rfl ?_;intro X1 q1 q2 q3;have HR:Hid (Rn k0 w0 X1 r T gs n pl C h av stk (ss++[x]++[y]) l nx an ls ags):=HH.out.keep q2;clear q1 q2 q3;simp only[Act.put,jA,jB,jC])
  |(go_at_call 75;refine Calls.mono (HTT.out X1 HR.out) ?_;rintro e X2 ⟨rfl,stk2,q⟩;have HR2:Hid (Rn k0 w0 X2 r T gs n pl C h av stk2 ss l nx an ls ags):=q;clear q)
  |(go_at_call 78;refine Calls.mono (HOP.out X2) ?_;rintro e X3 ⟨rfl,q⟩;have HR3:Hid (Rn k0 w0 X3 r T gs n pl C h av stk2 ss l nx an ls ags):=HR2.out.keep q;clear q)
  |(refine zaK rfl (by rfl:_=Op.alloc 27) ?_;intro X4 (R4:Hid (Row X4 X3.heap.size zW 27)) (B4:Hid (Below X3.heap.size X3 X4)) (S4:Hid (X4.heap.size=X3.heap.size+1));refine zaK rfl (by rfl:_=Op.alloc 27) ?_;intro X5 (R5:Hid (Row X5 X4.heap.size zW 27)) (B5:Hid (Below X4.heap.size X4 X5)) q3;clear q3;simp only[Act.put,jA,jB,jC])
  |(refine zaD rfl 27 (.tmp 5) (.tmp 14) rfl X3.heap.size L5 zW 27 rfl rfl (Row.below R4.out B5.out R4.out.lt) HI5.out.2.1 HI5.out.1 HI5.out.2.2 ?_;intro X6 (E6:Hid (X6=_)) (R6:Hid (Row X6 X3.heap.size L5 27));simp only[Act.put])
  |(refine zaD rfl 27 (.tmp 6) (.tmp 15) rfl X4.heap.size L6 zW 27 rfl rfl (by rw[E6.out];exact Row.setCells_other R5.out _ _ _ (by have:=S4.out;omega)) HI6.out.2.1 HI6.out.1 HI6.out.2.2 ?_;intro X7 (E7:Hid (X7=_)) (R7:Hid (Row X7 X4.heap.size L6 27));simp only[Act.put]))
 have D7:Below X3.heap.size X3 X7:=by
  rw[E7.out,E6.out]
  exact zaC (zaC (B4.out.trans (B5.out.mono (by rw[S4.out];omega))) (Nat.le_refl _) _) (by rw[S4.out];omega) _
 have R57:Hid (Row X7 X3.heap.size L5 27):=by rw[E7.out];exact Row.setCells_other R6.out _ _ _ (by have:=S4.out;omega)
 have HR7:Hid (Rn k0 w0 X7 r T gs n pl C h av stk2 ss l nx an ls ags):=HR3.out.keep D7
 obtain⟨b5,hb5⟩:∃ b,b=X3.heap.size:=⟨_,rfl⟩
 obtain⟨b6,hb6⟩:∃ b,b=X4.heap.size:=⟨_,rfl⟩
 rw[<-hb6] at R7 ⊢
 rw[<-hb5] at R57 ⊢
 clear hb5 hb6 D7 E7 E6 R6 R5 B5 R4 B4 S4 HR3 HR2 HR
 go_wp2_with (first
  |(refine zaG rfl 27 (.tmp 5) rfl b5 0 rfl L5 _ R57.out.all Tryz.underlying27 rfl HI5.out.1 ?_;simp only[Act.put,jA,jB,jC])
  |(go_at_call 73;refine Calls.mono (HLR.out stk2 X7 HR7.out) ?_;rintro e X9 ⟨v,rfl,q⟩;have HQ:Hid ((E=0->v=0/\∃ stk',Rn k0 w0 X9 r T gs n pl C h av stk' (ss++[z]) l nx an ls ags)/\(E≠0->v=104/\∃ stk',Rn k0 w0 X9 r T gs n pl C h av stk' ss l nx an ls ags)):=q;clear q))
 go_ret
 exact⟨_,rfl,HQ.out⟩
theorem do_mod (r T gs n:Nat) (pl:Value) (C:List Value) (h av stk:Value) (ss:List Nat) (l nx:Nat) (an:List Value) (ls:List Ins) (ags:List Nat) (I:List Value) (x y z:Nat) (E:Int) (hx:x<2 ^ 256) (hy:y<2 ^ 256) (hz:z=zsE x y) (hE:E=zmP y) (k0 w0 w:World) (H:Rn k0 w0 w r T gs n pl C h av stk (ss++[x]++[y]) l nx an ls ags) (hss:ss.length<=900):Calls Tryz.prog 50 #[.pointer (some ⟨r,0,none⟩),.agg I.toArray] w fun e w'=>∃ v,e=.returned (.int .i64 v)/\((E=0->v=0/\∃ stk',Rn k0 w0 w' r T gs n pl C h av stk' (ss++[z]) l nx an ls ags)/\(E≠0->v=104/\∃ stk',Rn k0 w0 w' r T gs n pl C h av stk' ss l nx an ls ags)):=by
 obtain⟨LX,hLX⟩:∃ L,L=wq x:=⟨_,rfl⟩
 obtain⟨LY,hLY⟩:∃ L,L=wq y:=⟨_,rfl⟩
 obtain⟨LZ,hLZ⟩:∃ L,L=wq z:=⟨_,rfl⟩
 obtain⟨L5,hL5⟩:∃ L,L=wq (zsD x y):=⟨_,rfl⟩
 obtain⟨L6,hL6⟩:∃ L,L=wq (zsE x y):=⟨_,rfl⟩
 have hLL:LZ=L6:=by rw[hLZ,hL6,hz]
 have HTT:Hid (∀ W,Rn k0 w0 W r T gs n pl C h av stk (ss++[x]++[y]) l nx an ls ags->Calls Tryz.prog 75 #[.pointer (some ⟨r,0,none⟩)] W fun e w'=>e=.returned (.tuple #[.agg LX.toArray,.agg LY.toArray])/\∃ stk',Rn k0 w0 w' r T gs n pl C h av stk' ss l nx an ls ags):=fun W hW=>by
  rw[hLX,hLY]
  refine Calls.mono (zbF r T gs n pl C h av stk ss l nx an ls ags x y k0 w0 W hW (by omega)) ?_
  rintro e w' ⟨q1,q2⟩
  obtain⟨_,_,stk2,q⟩:=q2
  exact⟨q1,stk2,q⟩
 have HOP:Hid (∀ W,Calls Tryz.prog 78 #[.agg LX.toArray,.agg LY.toArray] W fun e w'=>e=.returned (.tuple #[.agg L5.toArray,.agg L6.toArray,.int .i64 E])/\Below W.heap.size W w'):=fun W=>by
  rw[hLX,hLY,hL5,hL6,hE]
  exact zsF x y hx hy W
 have HLR:Hid (∀ stk' W,Rn k0 w0 W r T gs n pl C h av stk' ss l nx an ls ags->Calls Tryz.prog 73 #[.pointer (some ⟨r,0,none⟩),.agg L6.toArray,.int .i64 E] W fun e w'=>∃ v,e=.returned (.int .i64 v)/\((E=0->v=0/\∃ stk',Rn k0 w0 w' r T gs n pl C h av stk' (ss++[z]) l nx an ls ags)/\(E≠0->v=104/\∃ stk',Rn k0 w0 w' r T gs n pl C h av stk' ss l nx an ls ags))):=fun stk' W hW=>by rw[hL6,<-hz];exact zgJ r T gs n pl C h av stk' ss l nx an ls ags z E k0 w0 W hW (by omega)
 have HI5:Hid ((Tryz.prog.info? 27).map (·.size)=some L5.length/\L5.length=zW.length/\L5.toArray.all (·.oneCell')=true):=by rw[hL5];exact⟨zaU _,zaV _,zbH _⟩
 have HI6:Hid ((Tryz.prog.info? 27).map (·.size)=some L6.length/\L6.length=zW.length/\L6.toArray.all (·.oneCell')=true):=by rw[hL6];exact⟨zaU _,zaV _,zbH _⟩
 have HH:Hid (Rn k0 w0 w r T gs n pl C h av stk (ss++[x]++[y]) l nx an ls ags):=H
 clear H hss hLX hLY hLL hLZ hL5 hL6 hx hy hz hE
 go_enter Tryz.func50,Tryz.ntmps50
 go_upto_region 2 with (first
  |(refine zaF 97 rfl (.tmp 1) rfl I rfl ?_;intro X1 q1 q2 q3;have HR:Hid (Rn k0 w0 X1 r T gs n pl C h av stk (ss++[x]++[y]) l nx an ls ags):=HH.out.keep q2;clear q1 q2 q3;simp only[Act.put,jA,jB,jC])
  |(go_at_call 75;refine Calls.mono (HTT.out X1 HR.out) ?_;rintro e X2 ⟨rfl,stk2,q⟩;have HR2:Hid (Rn k0 w0 X2 r T gs n pl C h av stk2 ss l nx an ls ags):=q;clear q)
  |(go_at_call 78;refine Calls.mono (HOP.out X2) ?_;rintro e X3 ⟨rfl,q⟩;have HR3:Hid (Rn k0 w0 X3 r T gs n pl C h av stk2 ss l nx an ls ags):=HR2.out.keep q;clear q)
  |(refine zaK rfl (by rfl:_=Op.alloc 27) ?_;intro X4 (R4:Hid (Row X4 X3.heap.size zW 27)) (B4:Hid (Below X3.heap.size X3 X4)) (S4:Hid (X4.heap.size=X3.heap.size+1));refine zaK rfl (by rfl:_=Op.alloc 27) ?_;intro X5 (R5:Hid (Row X5 X4.heap.size zW 27)) (B5:Hid (Below X4.heap.size X4 X5)) q3;clear q3;simp only[Act.put,jA,jB,jC])
  |(refine zaD rfl 27 (.tmp 5) (.tmp 14) rfl X3.heap.size L5 zW 27 rfl rfl (Row.below R4.out B5.out R4.out.lt) HI5.out.2.1 HI5.out.1 HI5.out.2.2 ?_;intro X6 (E6:Hid (X6=_)) (R6:Hid (Row X6 X3.heap.size L5 27));simp only[Act.put])
  |(refine zaD rfl 27 (.tmp 6) (.tmp 15) rfl X4.heap.size L6 zW 27 rfl rfl (by rw[E6.out];exact Row.setCells_other R5.out _ _ _ (by have:=S4.out;omega)) HI6.out.2.1 HI6.out.1 HI6.out.2.2 ?_;intro X7 (E7:Hid (X7=_)) (R7:Hid (Row X7 X4.heap.size L6 27));simp only[Act.put]))
 have D7:Below X3.heap.size X3 X7:=by
  rw[E7.out,E6.out]
  exact zaC (zaC (B4.out.trans (B5.out.mono (by rw[S4.out];omega))) (Nat.le_refl _) _) (by rw[S4.out];omega) _
 have R57:Hid (Row X7 X3.heap.size L5 27):=by rw[E7.out];exact Row.setCells_other R6.out _ _ _ (by have:=S4.out;omega)
 have HR7:Hid (Rn k0 w0 X7 r T gs n pl C h av stk2 ss l nx an ls ags):=HR3.out.keep D7
 obtain⟨b5,hb5⟩:∃ b,b=X3.heap.size:=⟨_,rfl⟩
 obtain⟨b6,hb6⟩:∃ b,b=X4.heap.size:=⟨_,rfl⟩
 rw[<-hb6] at R7 ⊢
 rw[<-hb5] at R57 ⊢
 clear hb5 hb6 D7 E7 E6 R6 R5 B5 R4 B4 S4 HR3 HR2 HR
 go_wp2_with (first
  |(refine zaG rfl 27 (.tmp 6) rfl b6 0 rfl L6 _ R7.out.all Tryz.underlying27 rfl HI6.out.1 ?_;simp only[Act.put,jA,jB,jC])
  |(go_at_call 73;refine Calls.mono (HLR.out stk2 X7 HR7.out) ?_;rintro e X9 ⟨v,rfl,q⟩;have HQ:Hid ((E=0->v=0/\∃ stk',Rn k0 w0 X9 r T gs n pl C h av stk' (ss++[z]) l nx an ls ags)/\(E≠0->v=104/\∃ stk',Rn k0 w0 X9 r T gs n pl C h av stk' ss l nx an ls ags)):=q;clear q))
 go_ret
 exact⟨_,rfl,HQ.out⟩
end Go.Proofs.YtedeobikfddmgaaGreat
