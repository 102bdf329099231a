import Derived.Test.YtedeobikfddmgaaGreatMkAA
import Derived.Test.YtedeobikfddmgaaGreatMkDa
set_option maxRecDepth 100000
set_option maxHeartbeats 16000000
namespace Go.Proofs.YtedeobikfddmgaaGreat
open Go Go.RowKit
open Sha
open Wd
theorem of_0 (w:World):Calls Tryz.prog 98 #[.int .u64 0] w fun e w'=>e=.returned (.agg (wq 0).toArray)/\Below w.heap.size w w':=by
 obtain⟨L,hL⟩:∃ L,L=wq 0:=⟨_,rfl⟩
 have HLC:Hid (L=[.int .u64 0,.int .u64 0,.int .u64 0,.int .u64 0]):=by rw[hL,zaQ,show lim 0 0=0 by decide +kernel,show lim 0 1=0 by decide +kernel,show lim 0 2=0 by decide +kernel,show lim 0 3=0 by decide +kernel];exact rfl
 have HI:Hid ((Tryz.prog.info? 27).map (·.size)=some L.length/\L.length=zW.length/\L.toArray.all (·.oneCell')=true):=by rw[hL];exact⟨zaU _,zaV _,zbH _⟩
 rw[<-hL]
 clear hL
 go_enter Tryz.func98,Tryz.ntmps98
 go_wp2_with (first
  |(refine zaK rfl rfl ?_;intro X1 (R1:Hid (Row X1 w.heap.size zW 27)) (B1:Hid (Below w.heap.size w X1)) q3;clear q3;simp only[Act.put,jA,jB,jC])
  |(refine zaD rfl 27 (.tmp 2) (.tmp 4) rfl w.heap.size L zW 27 rfl (by rw[HLC.out];rfl) R1.out HI.out.2.1 HI.out.1 HI.out.2.2 ?_;intro X2 (E2:Hid (X2=_)) (R2:Hid (Row X2 w.heap.size L 27));simp only[Act.put]))
 exact bodyPost_ret (zcK Tryz.results98 _ _ w.heap.size 27 L rfl R2.out Tryz.underlying27 (by kernel_rfl) HI.out.2.1) rfl ⟨rfl,by rw[E2.out];exact zaC B1.out (Nat.le_refl _) _⟩
theorem zrX (r T gs n:Nat) (pl:Value) (C:List Value) (h av stk:Value) (ss:List Nat) (l nx:Nat) (an:List Value) (ls:List Ins) (ags:List Nat) (k0 w0 w:World) (H:Rn k0 w0 w r T gs n pl C h av stk ss l nx an ls ags) (hss:ss.length<=1000):Calls Tryz.prog 83 #[.pointer (some ⟨r,0,none⟩),.int .i64 0] w fun e w'=>e=.returned (.int .i64 0)/\∃ stk',Rn k0 w0 w' r T gs n pl C h av stk' (ss++[0]) l nx an ls ags:=by
 obtain⟨L,hL⟩:∃ L,L=wq 0:=⟨_,rfl⟩
 have HOF:Hid (∀ W,Calls Tryz.prog 98 #[.int .u64 0] W fun e w'=>e=.returned (.agg L.toArray)/\Below W.heap.size W w'):=fun W=>by rw[hL];exact of_0 W
 have HLV:Hid (∀ W,Rn k0 w0 W r T gs n pl C h av stk ss l nx an ls ags->Calls Tryz.prog 72 #[.pointer (some ⟨r,0,none⟩),.agg L.toArray] W fun e w'=>e=.returned (.int .i64 0)/\∃ stk',Rn k0 w0 w' r T gs n pl C h av stk' (ss++[0]) l nx an ls ags):=fun W hW=>by rw[hL];exact zcD r T gs n pl C h av stk ss l nx an ls ags 0 k0 w0 W hW hss
 have HH:Hid (Rn k0 w0 w r T gs n pl C h av stk ss l nx an ls ags):=H
 clear H hss hL
 go_enter Tryz.func83,Tryz.ntmps83
 go_wp2_with (first
  |(go_at_call 98;refine Calls.mono (HOF.out w) ?_;rintro e X1 ⟨rfl,q⟩;have HR:Hid (Rn k0 w0 X1 r T gs n pl C h av stk ss l nx an ls ags):=HH.out.keep q;clear q)
  |(go_at_call 72;refine Calls.mono (HLV.out X1 HR.out) ?_;rintro e Y ⟨rfl,stk',q⟩;have HQ:Hid (Rn k0 w0 Y r T gs n pl C h av stk' (ss++[0]) l nx an ls ags):=q;clear q))
 go_ret
 exact⟨rfl,_,HQ.out⟩
theorem zmD (r T gs n:Nat) (pl:Value) (C:List Value) (h av stk:Value) (ss:List Nat) (l nx:Nat) (an:List Value) (ls:List Ins) (ags:List Nat) (k0 w0 w:World) (H:Rn k0 w0 w r T gs n pl C h av stk ss l nx an ls ags) (hss:ss.length<=1000):Calls Tryz.prog 79 #[.pointer (some ⟨r,0,none⟩),.bool false] w fun e w'=>e=.returned (.int .i64 0)/\∃ stk',Rn k0 w0 w' r T gs n pl C h av stk' (ss++[0]) l nx an ls ags:=by
 have HLC:Hid _:=zrX r T gs n pl C h av stk ss l nx an ls ags k0 w0 w H hss
 clear H hss
 go_enter Tryz.func79,Tryz.ntmps79
 go_wp2_with (go_at_call 83;refine Calls.mono HLC.out ?_;rintro e Y ⟨rfl,stk',q⟩;have HQ:Hid (Rn k0 w0 Y r T gs n pl C h av stk' (ss++[0]) l nx an ls ags):=q;clear q)
 go_ret
 exact⟨rfl,_,HQ.out⟩
theorem of_1 (w:World):Calls Tryz.prog 98 #[.int .u64 1] w fun e w'=>e=.returned (.agg (wq 1).toArray)/\Below w.heap.size w w':=by
 obtain⟨L,hL⟩:∃ L,L=wq 1:=⟨_,rfl⟩
 have HLC:Hid (L=[.int .u64 1,.int .u64 0,.int .u64 0,.int .u64 0]):=by rw[hL,zaQ,show lim 1 0=1 by decide +kernel,show lim 1 1=0 by decide +kernel,show lim 1 2=0 by decide +kernel,show lim 1 3=0 by decide +kernel];exact rfl
 have HI:Hid ((Tryz.prog.info? 27).map (·.size)=some L.length/\L.length=zW.length/\L.toArray.all (·.oneCell')=true):=by rw[hL];exact⟨zaU _,zaV _,zbH _⟩
 rw[<-hL]
 clear hL
 go_enter Tryz.func98,Tryz.ntmps98
 go_wp2_with (first
  |(refine zaK rfl rfl ?_;intro X1 (R1:Hid (Row X1 w.heap.size zW 27)) (B1:Hid (Below w.heap.size w X1)) q3;clear q3;simp only[Act.put,jA,jB,jC])
  |(refine zaD rfl 27 (.tmp 2) (.tmp 4) rfl w.heap.size L zW 27 rfl (by rw[HLC.out];rfl) R1.out HI.out.2.1 HI.out.1 HI.out.2.2 ?_;intro X2 (E2:Hid (X2=_)) (R2:Hid (Row X2 w.heap.size L 27));simp only[Act.put]))
 exact bodyPost_ret (zcK Tryz.results98 _ _ w.heap.size 27 L rfl R2.out Tryz.underlying27 (by kernel_rfl) HI.out.2.1) rfl ⟨rfl,by rw[E2.out];exact zaC B1.out (Nat.le_refl _) _⟩
theorem count_1 (r T gs n:Nat) (pl:Value) (C:List Value) (h av stk:Value) (ss:List Nat) (l nx:Nat) (an:List Value) (ls:List Ins) (ags:List Nat) (k0 w0 w:World) (H:Rn k0 w0 w r T gs n pl C h av stk ss l nx an ls ags) (hss:ss.length<=1000):Calls Tryz.prog 83 #[.pointer (some ⟨r,0,none⟩),.int .i64 1] w fun e w'=>e=.returned (.int .i64 0)/\∃ stk',Rn k0 w0 w' r T gs n pl C h av stk' (ss++[1]) l nx an ls ags:=by
 obtain⟨L,hL⟩:∃ L,L=wq 1:=⟨_,rfl⟩
 have HOF:Hid (∀ W,Calls Tryz.prog 98 #[.int .u64 1] W fun e w'=>e=.returned (.agg L.toArray)/\Below W.heap.size W w'):=fun W=>by rw[hL];exact of_1 W
 have HLV:Hid (∀ W,Rn k0 w0 W r T gs n pl C h av stk ss l nx an ls ags->Calls Tryz.prog 72 #[.pointer (some ⟨r,0,none⟩),.agg L.toArray] W fun e w'=>e=.returned (.int .i64 0)/\∃ stk',Rn k0 w0 w' r T gs n pl C h av stk' (ss++[1]) l nx an ls ags):=fun W hW=>by rw[hL];exact zcD r T gs n pl C h av stk ss l nx an ls ags 1 k0 w0 W hW hss
 have HH:Hid (Rn k0 w0 w r T gs n pl C h av stk ss l nx an ls ags):=H
 clear H hss hL
 go_enter Tryz.func83,Tryz.ntmps83
 go_wp2_with (first
  |(go_at_call 98;refine Calls.mono (HOF.out w) ?_;rintro e X1 ⟨rfl,q⟩;have HR:Hid (Rn k0 w0 X1 r T gs n pl C h av stk ss l nx an ls ags):=HH.out.keep q;clear q)
  |(go_at_call 72;refine Calls.mono (HLV.out X1 HR.out) ?_;rintro e Y ⟨rfl,stk',q⟩;have HQ:Hid (Rn k0 w0 Y r T gs n pl C h av stk' (ss++[1]) l nx an ls ags):=q;clear q))
 go_ret
 exact⟨rfl,_,HQ.out⟩
theorem zmE (r T gs n:Nat) (pl:Value) (C:List Value) (h av stk:Value) (ss:List Nat) (l nx:Nat) (an:List Value) (ls:List Ins) (ags:List Nat) (k0 w0 w:World) (H:Rn k0 w0 w r T gs n pl C h av stk ss l nx an ls ags) (hss:ss.length<=1000):Calls Tryz.prog 79 #[.pointer (some ⟨r,0,none⟩),.bool true] w fun e w'=>e=.returned (.int .i64 0)/\∃ stk',Rn k0 w0 w' r T gs n pl C h av stk' (ss++[1]) l nx an ls ags:=by
 have HLC:Hid _:=count_1 r T gs n pl C h av stk ss l nx an ls ags k0 w0 w H hss
 clear H hss
 go_enter Tryz.func79,Tryz.ntmps79
 go_wp2_with (go_at_call 83;refine Calls.mono HLC.out ?_;rintro e Y ⟨rfl,stk',q⟩;have HQ:Hid (Rn k0 w0 Y r T gs n pl C h av stk' (ss++[1]) l nx an ls ags):=q;clear q)
 go_ret
 exact⟨rfl,_,HQ.out⟩
theorem do_less (r T gs n:Nat) (pl:Value) (C:List Value) (h av stk:Value) (ss:List Nat) (l nx:Nat) (an:List Value) (ls:List Ins) (ags:List Nat) (I:List Value) (x y z:Nat) (E:Int) (hx:x<2 ^ 256) (hy:y<2 ^ 256) (hz:z=if x<y then 1 else 0) (hE:E=0) (k0 w0 w:World) (H:Rn k0 w0 w r T gs n pl C h av stk (ss++[x]++[y]) l nx an ls ags) (hss:ss.length<=900):Calls Tryz.prog 51 #[.pointer (some ⟨r,0,none⟩),.agg I.toArray] w fun e w'=>∃ v,e=.returned (.int .i64 v)/\((E=0->v=0/\∃ stk',Rn k0 w0 w' r T gs n pl C h av stk' (ss++[z]) l nx an ls ags)/\(E≠0->v=104/\∃ stk',Rn k0 w0 w' r T gs n pl C h av stk' ss l nx an ls ags)):=by
 obtain⟨LX,hLX⟩:∃ L,L=wq x:=⟨_,rfl⟩
 obtain⟨LY,hLY⟩:∃ L,L=wq y:=⟨_,rfl⟩
 subst hE
 have HTT:Hid (∀ W,Rn k0 w0 W r T gs n pl C h av stk (ss++[x]++[y]) l nx an ls ags->Calls Tryz.prog 75 #[.pointer (some ⟨r,0,none⟩)] W fun e w'=>e=.returned (.tuple #[.agg LX.toArray,.agg LY.toArray])/\∃ stk',Rn k0 w0 w' r T gs n pl C h av stk' ss l nx an ls ags):=fun W hW=>by
  rw[hLX,hLY]
  refine Calls.mono (zbF r T gs n pl C h av stk ss l nx an ls ags x y k0 w0 W hW (by omega)) ?_
  rintro e w' ⟨q1,q2⟩
  obtain⟨_,_,stk2,q⟩:=q2
  exact⟨q1,stk2,q⟩
 obtain⟨cm,hcm⟩:∃ cm,cm=zfN x y:=⟨_,rfl⟩
 have HOP:Hid (∀ W,Calls Tryz.prog 80 #[.agg LX.toArray,.agg LY.toArray] W fun e w'=>e=.returned (.int .i64 cm)/\Below W.heap.size W w'):=fun W=>by
  rw[hLX,hLY,hcm]
  exact zjR x y hx hy W
 have HH:Hid (Rn k0 w0 w r T gs n pl C h av stk (ss++[x]++[y]) l nx an ls ags):=H
 have hs':ss.length<=1000:=by omega
 by_cases hlt:x<y
 ·have hc:cm<0:=by rw[hcm];unfold zfN;rw[if_neg (by omega),if_pos hlt];decide
  rw[if_pos hlt] at hz
  subst hz
  have HW:Hid (∀ stk' W (B:Bool),B=true->Rn k0 w0 W r T gs n pl C h av stk' ss l nx an ls ags->Calls Tryz.prog 79 #[.pointer (some ⟨r,0,none⟩),.bool B] W fun e w'=>e=.returned (.int .i64 0)/\∃ stk',Rn k0 w0 w' r T gs n pl C h av stk' (ss++[1]) l nx an ls ags):=fun stk' W B hB hW=>by rw[hB];exact zmE r T gs n pl C h av stk' ss l nx an ls ags k0 w0 W hW hs'
  have HCD:Hid (decide (cm<0)=true):=decide_eq_true hc
  clear H hss hs' hLX hLY hx hy hcm hlt
  go_enter Tryz.func51,Tryz.ntmps51
  go_wp2_with (first
   |(refine zaF 97 rfl (.tmp 1) rfl I rfl ?_;intro X1 q1 q2 q3;have HR:Hid (Rn k0 w0 X1 r T gs n pl C h av stk (ss++[x]++[y]) l nx an ls ags):=HH.out.keep q2;clear q1 q2 q3;simp only[Act.put,jA,jB,jC])
   |(go_at_call 75;refine Calls.mono (HTT.out X1 HR.out) ?_;rintro e X2 ⟨rfl,stk2,q⟩;have HR2:Hid (Rn k0 w0 X2 r T gs n pl C h av stk2 ss l nx an ls ags):=q;clear q)
   |(go_at_call 80;refine Calls.mono (HOP.out X2) ?_;rintro e X3 ⟨rfl,q⟩;have HR3:Hid (Rn k0 w0 X3 r T gs n pl C h av stk2 ss l nx an ls ags):=HR2.out.keep q;clear q)
   |(go_at_call 79;refine Calls.mono (HW.out stk2 X3 _ (by first|rfl|exact HCD.out) HR3.out) ?_;rintro e X9 ⟨rfl,q⟩;have HQ:Hid (∃ stk',Rn k0 w0 X9 r T gs n pl C h av stk' (ss++[1]) l nx an ls ags):=q;clear q))
  go_ret
  exact⟨_,rfl,fun _=>⟨rfl,HQ.out⟩,fun h=>absurd rfl h⟩
 ·have hc:¬ cm<0:=by
   have h2:zfN x y=0\/zfN x y=1:=by
    unfold zfN
    by_cases he:x=y
    ·left;rw[if_pos he]
    ·right;rw[if_neg he,if_neg hlt]
   rw[hcm]
   rcases h2 with h2|h2 <;> rw[h2] <;> decide
  rw[if_neg hlt] at hz
  subst hz
  have HW:Hid (∀ stk' W (B:Bool),B=false->Rn k0 w0 W r T gs n pl C h av stk' ss l nx an ls ags->Calls Tryz.prog 79 #[.pointer (some ⟨r,0,none⟩),.bool B] W fun e w'=>e=.returned (.int .i64 0)/\∃ stk',Rn k0 w0 w' r T gs n pl C h av stk' (ss++[0]) l nx an ls ags):=fun stk' W B hB hW=>by rw[hB];exact zmD r T gs n pl C h av stk' ss l nx an ls ags k0 w0 W hW hs'
  have HCD:Hid (decide (cm<0)=false):=decide_eq_false hc
  clear hc
  clear H hss hs' hLX hLY hx hy hcm hlt
  go_enter Tryz.func51,Tryz.ntmps51
  go_wp2_with (first
   |(refine zaF 97 rfl (.tmp 1) rfl I rfl ?_;intro X1 q1 q2 q3;have HR:Hid (Rn k0 w0 X1 r T gs n pl C h av stk (ss++[x]++[y]) l nx an ls ags):=HH.out.keep q2;clear q1 q2 q3;simp only[Act.put,jA,jB,jC])
   |(go_at_call 75;refine Calls.mono (HTT.out X1 HR.out) ?_;rintro e X2 ⟨rfl,stk2,q⟩;have HR2:Hid (Rn k0 w0 X2 r T gs n pl C h av stk2 ss l nx an ls ags):=q;clear q)
   |(go_at_call 80;refine Calls.mono (HOP.out X2) ?_;rintro e X3 ⟨rfl,q⟩;have HR3:Hid (Rn k0 w0 X3 r T gs n pl C h av stk2 ss l nx an ls ags):=HR2.out.keep q;clear q)
   |(go_at_call 79;refine Calls.mono (HW.out stk2 X3 _ (by first|rfl|exact HCD.out) HR3.out) ?_;rintro e X9 ⟨rfl,q⟩;have HQ:Hid (∃ stk',Rn k0 w0 X9 r T gs n pl C h av stk' (ss++[0]) l nx an ls ags):=q;clear q))
  go_ret
  exact⟨_,rfl,fun _=>⟨rfl,HQ.out⟩,fun h=>absurd rfl h⟩
end Go.Proofs.YtedeobikfddmgaaGreat
