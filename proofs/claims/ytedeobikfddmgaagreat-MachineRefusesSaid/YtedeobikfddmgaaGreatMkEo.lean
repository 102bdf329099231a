import Derived.Test.YtedeobikfddmgaaGreatMkAA
import Derived.Test.YtedeobikfddmgaaGreatMkEa
import Derived.Test.YtedeobikfddmgaaGreatMkQ
import Derived.Test.YtedeobikfddmgaaGreatMkEi
import Derived.Test.YtedeobikfddmgaaGreatMkEg
import Derived.Test.YtedeobikfddmgaaGreatMkEj
set_option maxRecDepth 100000
set_option maxHeartbeats 16000000
namespace Go.Proofs.YtedeobikfddmgaaGreat
open Go Go.RowKit
open Sha
open Wd
theorem do_dup (r T gs n:Nat) (pl:Value) (C:List Value) (h av stk:Value) (ss:List Nat) (l nx:Nat) (an:List Value) (ls:List Ins) (ags:List Nat) (I:List Value) (ci pi ai ni x:Nat) (hI:I=ic ci pi ai ni) (hn:ni+1<=ss.length) (hx:ss[ss.length-1-ni]?=some x) (k0 w0 w:World) (H:Rn k0 w0 w r T gs n pl C h av stk (ss) l nx an ls ags) (hss:ss.length<=900):Calls Tryz.prog 44 #[.pointer (some ⟨r,0,none⟩),.agg I.toArray] w fun e w'=>e=.returned (.int .i64 0)/\∃ stk',Rn k0 w0 w' r T gs n pl C h av stk' (ss++[x]) l nx an ls ags:=by
 obtain⟨g,cp,hsv,hcp⟩:=Lw.open H.st (by omega)
 subst hsv
 have HH:Hid (Rn k0 w0 w r T gs n pl C h av (.slice (some ⟨g,0,none⟩) ss.length cp) (ss) l nx an ls ags):=H
 obtain⟨k,hk⟩:∃ k,k=ss.length:=⟨_,rfl⟩
 have HK:Hid (k=ss.length):=hk
 obtain⟨k1,hk1⟩:∃ k1,k1=k-1:=⟨_,rfl⟩
 obtain⟨m,hm⟩:∃ m,m=k1-ni:=⟨_,rfl⟩
 have e1:(k:Int)-1=(k1:Int):=by omega
 have e2:(k1:Int)-(ni:Int)=(m:Int):=by omega
 have hmk:m<k:=by omega
 have hkl:k<=900:=by omega
 have hw1:IntKind.i64.wrap (k1:Int)=(k1:Int):=by rw[IntKind.wrap_i64];omega
 have hw2:IntKind.i64.wrap (m:Int)=(m:Int):=by rw[IntKind.wrap_i64];omega
 have hnl:ni<=900:=by omega
 rw[show ss.length-1-ni=m by omega] at hx
 obtain⟨x0,hx0⟩:∃ a,a=((lim x 0:Nat):Int):=⟨_,rfl⟩
 obtain⟨x1,hx1⟩:∃ a,a=((lim x 1:Nat):Int):=⟨_,rfl⟩
 obtain⟨x2,hx2⟩:∃ a,a=((lim x 2:Nat):Int):=⟨_,rfl⟩
 obtain⟨x3,hx3⟩:∃ a,a=((lim x 3:Nat):Int):=⟨_,rfl⟩
 have hX:wq x=[.int .u64 x0,.int .u64 x1,.int .u64 x2,.int .u64 x3]:=by rw[zaQ,hx0,hx1,hx2,hx3]
 have HXX:Hid (ss[m]?=some x):=hx
 have HX:Hid (wq x=[.int .u64 x0,.int .u64 x1,.int .u64 x2,.int .u64 x3]):=hX
 have HIC:Hid (I=ic ci pi ai ni):=hI
 have HLV:Hid (∀ W,Rn k0 w0 W r T gs n pl C h av (.slice (some ⟨g,0,none⟩) ss.length cp) (ss) l nx an ls ags->Calls Tryz.prog 72 #[.pointer (some ⟨r,0,none⟩),.agg #[.int .u64 x0,.int .u64 x1,.int .u64 x2,.int .u64 x3]] W fun e w'=>e=.returned (.int .i64 0)/\∃ stk',Rn k0 w0 w' r T gs n pl C h av stk' (ss++[x]) l nx an ls ags):=fun W hW=>by
  have q:=zcD r T gs n pl C h av _ ss l nx an ls ags x k0 w0 W hW (by omega)
  rw[hX] at q
  exact q
 clear H hss hI hx0 hx1 hx2 hx3 hX hx hk hk1 hm hcp hn
 go_enter Tryz.func44,Tryz.ntmps44
 go_upto_region 1 with (refine zaF 97 rfl (.tmp 1) rfl I rfl ?_;intro X1 q1 q2 q3;have R1:Hid (Row X1 w.heap.size I 97):=q1;have HR:Hid (Rn k0 w0 X1 r T gs n pl C h av (.slice (some ⟨g,0,none⟩) ss.length cp) (ss) l nx an ls ags):=HH.out.keep q2;clear q1 q2 q3;simp only[Act.put,jA,jB,jC])
 have c6:X1.cell? ⟨w.heap.size,6,none⟩=some (.int .i64 (ni:Int)):=R1.out.cell 6 _ (by rw[HIC.out];exact zsZ _ _ _ _)
 have c52:X1.cell? ⟨r,52,none⟩=some (.slice (some ⟨g,0,none⟩) k cp):=by
  rw[HK.out]
  exact HR.out.row.cell 52 _ (zbX HR.out.clen 1)
 obtain⟨b3,hb3⟩:∃ b,b=w.heap.size:=⟨_,rfl⟩
 rw[<-hb3] at c6
 rw[<-hb3]
 have RG:X1.rangeAt g (m*4) [.int .u64 x0,.int .u64 x1,.int .u64 x2,.int .u64 x3]:=by
  rw[<-HX.out]
  exact zjV (Lw.range HR.out.st) m x HXX.out
 have a0:X1.cell? ⟨g,m*4,none⟩=some (.int .u64 x0):=RG 0 _ rfl
 have a1:X1.cell? ⟨g,m*4+1,none⟩=some (.int .u64 x1):=RG 1 _ rfl
 have a2:X1.cell? ⟨g,m*4+2,none⟩=some (.int .u64 x2):=RG 2 _ rfl
 have a3:X1.cell? ⟨g,m*4+3,none⟩=some (.int .u64 x3):=RG 3 _ rfl
 clear hb3 RG R1 HIC
 go_region_law (refine zdT rfl 72 rfl #[.pointer (some ⟨r,0,none⟩),.agg #[.int .u64 x0,.int .u64 x1,.int .u64 x2,.int .u64 x3]] (by go_simp) (Calls.mono (HLV.out _ (HR.out.drewN _)) ?_);rintro e Y ⟨rfl,stk',q⟩;refine⟨_,rfl,?_⟩;have HQ:Hid (Rn k0 w0 Y r T gs n pl C h av stk' (ss++[x]) l nx an ls ags):=q;clear q)
 all_goals
  clear a0 a1 a2 a3 c6 c52
  go_wp2
  go_ret
  exact⟨rfl,_,HQ.out⟩
theorem needs_2 (nm f:Value) (g t lv ni:Nat) (ht:t<=100) (hlv:lv<=100) (hn:ni<=1000) (I:List Value) (hI:I[6]?=some (.int .i64 (ni:Int))) (w:World):Calls Tryz.prog 91 #[.agg #[nm,.int .i64 2,.int .i64 (g:Int),.int .i64 (t:Int),.int .i64 (lv:Int),f],.agg I.toArray] w fun e w'=>e=.returned (.tuple #[.int .i64 ((t+ni:Nat):Int),.int .i64 ((lv+ni:Nat):Int)])/\Below w.heap.size w w':=by
 have HI6:Hid (I[6]?=some (.int .i64 (ni:Int))):=hI
 obtain⟨s1,hs1⟩:∃ s,s=t+ni:=⟨_,rfl⟩
 obtain⟨s2,hs2⟩:∃ s,s=lv+ni:=⟨_,rfl⟩
 have e1:(t:Int)+(ni:Int)=(s1:Int):=by omega
 have e2:(lv:Int)+(ni:Int)=(s2:Int):=by omega
 have l1:s1<=1100:=by omega
 have l2:s2<=1100:=by omega
 rw[<-hs1,<-hs2]
 clear hI hs1 hs2
 go_enter Tryz.func91,Tryz.ntmps91
 go_upto_region 1 with (first
  |(refine zaF 95 rfl (.tmp 0) rfl [nm,.int .i64 2,.int .i64 (g:Int),.int .i64 (t:Int),.int .i64 (lv:Int),f] rfl ?_;intro X (R1:Hid (Row X w.heap.size [nm,.int .i64 2,.int .i64 (g:Int),.int .i64 (t:Int),.int .i64 (lv:Int),f] 95)) (B1:Hid (Below w.heap.size w X)) q3;clear q3;simp only[Act.put,jA,jB,jC])
  |(refine zaF 97 rfl (.tmp 1) rfl I rfl ?_;intro Y (RI:Hid (Row Y X.heap.size I 97)) (B2:Hid (Below X.heap.size X Y)) q3;clear q3;simp only[Act.put,jA,jB,jC]))
 have R2:=Row.below R1.out B2.out R1.out.lt
 have c1:=R2.cell 1 _ rfl
 have c3:=R2.cell 3 _ rfl
 have c4:=R2.cell 4 _ rfl
 have c6:Y.cell? ⟨X.heap.size,6,none⟩=some (.int .i64 (ni:Int)):=RI.out.cell 6 _ HI6.out
 have BB:Hid (Below w.heap.size w Y):=B1.out.trans (B2.out.mono B1.out.size)
 clear R2 R1 B1 B2 RI
 go_upto_region 4 with fail
 go_quiet (fail)
 go_wp2
 go_ret2
 exact⟨rfl,zbE BB.out _⟩
theorem needs_3 (nm f:Value) (g t lv ni:Nat) (ht:t<=100) (hlv:lv<=100) (hn:ni<=1000) (I:List Value) (hI:I[6]?=some (.int .i64 (ni:Int))) (w:World):Calls Tryz.prog 91 #[.agg #[nm,.int .i64 3,.int .i64 (g:Int),.int .i64 (t:Int),.int .i64 (lv:Int),f],.agg I.toArray] w fun e w'=>e=.returned (.tuple #[.int .i64 ((t+ni:Nat):Int),.int .i64 ((lv+ni:Nat):Int)])/\Below w.heap.size w w':=by
 have HI6:Hid (I[6]?=some (.int .i64 (ni:Int))):=hI
 obtain⟨s1,hs1⟩:∃ s,s=t+ni:=⟨_,rfl⟩
 obtain⟨s2,hs2⟩:∃ s,s=lv+ni:=⟨_,rfl⟩
 have e1:(t:Int)+(ni:Int)=(s1:Int):=by omega
 have e2:(lv:Int)+(ni:Int)=(s2:Int):=by omega
 have l1:s1<=1100:=by omega
 have l2:s2<=1100:=by omega
 rw[<-hs1,<-hs2]
 clear hI hs1 hs2
 go_enter Tryz.func91,Tryz.ntmps91
 go_upto_region 1 with (first
  |(refine zaF 95 rfl (.tmp 0) rfl [nm,.int .i64 3,.int .i64 (g:Int),.int .i64 (t:Int),.int .i64 (lv:Int),f] rfl ?_;intro X (R1:Hid (Row X w.heap.size [nm,.int .i64 3,.int .i64 (g:Int),.int .i64 (t:Int),.int .i64 (lv:Int),f] 95)) (B1:Hid (Below w.heap.size w X)) q3;clear q3;simp only[Act.put,jA,jB,jC])
  |(refine zaF 97 rfl (.tmp 1) rfl I rfl ?_;intro Y (RI:Hid (Row Y X.heap.size I 97)) (B2:Hid (Below X.heap.size X Y)) q3;clear q3;simp only[Act.put,jA,jB,jC]))
 have R2:=Row.below R1.out B2.out R1.out.lt
 have c1:=R2.cell 1 _ rfl
 have c3:=R2.cell 3 _ rfl
 have c4:=R2.cell 4 _ rfl
 have c6:Y.cell? ⟨X.heap.size,6,none⟩=some (.int .i64 (ni:Int)):=RI.out.cell 6 _ HI6.out
 have BB:Hid (Below w.heap.size w Y):=B1.out.trans (B2.out.mono B1.out.size)
 clear R2 R1 B1 B2 RI
 go_upto_region 4 with fail
 go_quiet (fail)
 go_wp2
 go_ret2
 exact⟨rfl,zbE BB.out _⟩
theorem cfe_dup (args:Array Value) (W:World):(callFunc 44 args).run Tryz.prog W=.ok (.enter 44 args) W:=by
 go_simp
theorem ziG (st:List Nat) (i:Nat) (h:i<st.length):st.reverse[st.reverse.length-1-i]?=some (st.getD i 0):=by
 rw[List.length_reverse,List.getElem?_reverse (by omega),show st.length-1-(st.length-1-i)=i by omega,List.getElem?_eq_getElem h]
 simp [h]
theorem zkF (st:List Nat) (i x:Nat) (h:i<st.length):(st.set i x).reverse=st.reverse.set (st.reverse.length-1-i) x:=by
 apply List.ext_getElem?
 intro j
 rw[List.length_reverse]
 by_cases hj:j<st.length
 ·rw[List.getElem?_reverse (by rw[List.length_set];exact hj),List.length_set,List.getElem?_set,List.getElem?_set,List.getElem?_reverse hj,List.length_reverse]
  by_cases he:i=st.length-1-j
  ·rw[if_pos he,if_pos (by omega),if_pos (show st.length-1-i=j by omega),if_pos (by omega)]
  ·rw[if_neg he,if_neg (by omega)]
 ·rw[List.getElem?_eq_none (by rw[List.length_reverse,List.length_set];omega),List.getElem?_eq_none (by rw[List.length_set,List.length_reverse];omega)]
theorem sp_dup (r T gs n:Nat) (pl:Value) (C:List Value) (h av stk:Value) (st:List Nat) (l nx:Nat) (an:List Value) (ls:List Ins) (ags:List Nat) (cl:Cl) (pi ai ni:Nat) (hn:ni<=15) (hl:l<=10000) (hsl:st.length<=64) (hnx:nx<=1024) (k0 w0 w:World) (H:Rn k0 w0 w r T gs n pl C h av stk st.reverse l nx an ls ags):Calls Tryz.prog 70 #[.pointer (some ⟨r,0,none⟩),.agg (ic 4 pi ai ni).toArray] w fun e w'=>∃ v,e=.returned (.int .i64 v)/\StP k0 w0 w' r T gs n pl C h av l an ls ags 1 (1+ni) (2+ni) st (exi cl ags ls 4 ai ni st (l-1) (nx+1)) v:=by
 refine zcF r T gs n pl C h av stk st l nx an ls ags 4 pi ai ni _ 2 1 1 2 44 (by decide) rfl (1+ni) (2+ni) (fun W=>needs_2 _ _ 1 1 2 ni (by decide) (by decide) (by omega) _ (zsZ _ _ _ _) W) hl (by omega) hsl hnx k0 w0 w H _ cfe_dup ?_
 intro hg ht hm W hW
 refine Calls.mono (do_dup r T gs n pl C h av stk st.reverse _ _ an ls ags _ 4 pi ai ni (st.getD ni 0) rfl (by rw[List.length_reverse];omega) (ziG st ni (by omega)) k0 w0 W hW (by rw[List.length_reverse];omega)) ?_
 rintro e w' ⟨rfl,stk',q⟩
 exact⟨0,rfl,rfl,stk',by rw[List.reverse_cons];exact q⟩
theorem zxD (args:Array Value) (W:World):(callFunc 45 args).run Tryz.prog W=.ok (.enter 45 args) W:=by
 go_simp
theorem sp_swap (r T gs n:Nat) (pl:Value) (C:List Value) (h av stk:Value) (st:List Nat) (l nx:Nat) (an:List Value) (ls:List Ins) (ags:List Nat) (cl:Cl) (pi ai ni:Nat) (hn1:1<=ni) (hn:ni<=15) (hl:l<=10000) (hsl:st.length<=64) (hnx:nx<=1024) (k0 w0 w:World) (H:Rn k0 w0 w r T gs n pl C h av stk st.reverse l nx an ls ags):Calls Tryz.prog 70 #[.pointer (some ⟨r,0,none⟩),.agg (ic 5 pi ai ni).toArray] w fun e w'=>∃ v,e=.returned (.int .i64 v)/\StP k0 w0 w' r T gs n pl C h av l an ls ags 1 (1+ni) (1+ni) st (exi cl ags ls 5 ai ni st (l-1) (nx+1)) v:=by
 refine zcF r T gs n pl C h av stk st l nx an ls ags 5 pi ai ni _ 3 1 1 1 45 (by decide) rfl (1+ni) (1+ni) (fun W=>needs_3 _ _ 1 1 1 ni (by decide) (by decide) (by omega) _ (zsZ _ _ _ _) W) hl (by omega) hsl hnx k0 w0 w H _ zxD ?_
 intro hg ht hm W hW
 refine Calls.mono (do_swap r T gs n pl C h av stk st.reverse _ _ an ls ags _ 5 pi ai ni (st.getD ni 0) (st.getD 0 0) rfl hn1 (by rw[List.length_reverse];omega) (ziG st ni (by omega)) (ziG st 0 (by omega)) k0 w0 W hW (by rw[List.length_reverse];omega)) ?_
 rintro e w' ⟨rfl,stk',q⟩
 refine⟨0,rfl,rfl,stk',?_⟩
 rw[zkF _ ni _ (by rw[List.length_set];omega),zkF st 0 _ (by omega),List.length_set]
 exact q
def gT (c:Nat):Nat:=([1,1,1,1,1,1,2,2,5,10,10,2,2,2,5,5,2,2,2,2,2,2,2,2,200,200,200,500]:List Nat).getD c 0
def tT (c ni:Nat):Nat:=match c with
 |4=>1+ni
 |5=>1+ni
 |c=>([0,1,0,1,1,1,2,2,2,2,2,2,2,1,0,1,0,0,0,0,0,0,0,0,1,2,2,3]:List Nat).getD c 0
def lT (c ni:Nat):Nat:=match c with
 |4=>2+ni
 |5=>1+ni
 |c=>([0,0,1,0,2,1,1,1,1,1,1,1,1,1,0,0,1,1,1,1,1,1,1,1,1,0,1,0]:List Nat).getD c 0
theorem sp_any (r T gs n:Nat) (pl:Value) (C:List Value) (h av stk:Value) (st:List Nat) (l nx:Nat) (an:List Value) (ls:List Ins) (ags:List Nat) (cl:Cl) (hcl:cl.In C) (c pi ai ni:Nat) (hc:c<24) (hc1:c≠1) (h4:c=4->ni<=15) (h5:c=5->1<=ni/\ni<=15) (hj:c=14\/c=15->ni<n/\∃ m,stf ls ni=m+1/\m<=100000) (h16:c=16->ni<=1000) (h8:ags.length<=8) (hst:∀ a ∈ st,a<2 ^ 256) (hl:l<=10000) (hsl:st.length<=64) (hnx:nx<=1024) (k0 w0 w:World) (H:Rn k0 w0 w r T gs n pl C h av stk st.reverse l nx an ls ags):Calls Tryz.prog 70 #[.pointer (some ⟨r,0,none⟩),.agg (ic c pi ai ni).toArray] w fun e w'=>∃ v,e=.returned (.int .i64 v)/\StP k0 w0 w' r T gs n pl C h av l an ls ags (gT c) (tT c ni) (lT c ni) st (exi cl ags ls c ai ni st (l-gT c) (nx+1)) v:=by
 match c,hc with
 |1,_=>exact absurd rfl hc1
 |0,_=>exact sp_stop r T gs n pl C h av stk st l nx an ls ags cl pi ai ni hl hsl hnx k0 w0 w H
 |2,_=>exact sp_push r T gs n pl C h av stk st l nx an ls ags cl pi ai ni hl hsl hnx k0 w0 w H
 |3,_=>exact sp_pop r T gs n pl C h av stk st l nx an ls ags cl pi ai ni hl hsl hnx k0 w0 w H
 |4,_=>exact sp_dup r T gs n pl C h av stk st l nx an ls ags cl pi ai ni (h4 rfl) hl hsl hnx k0 w0 w H
 |5,_=>exact sp_swap r T gs n pl C h av stk st l nx an ls ags cl pi ai ni (h5 rfl).1 (h5 rfl).2 hl hsl hnx k0 w0 w H
 |6,_=>exact sp_add r T gs n pl C h av stk st l nx an ls ags cl pi ai ni hst hl hsl hnx k0 w0 w H
 |7,_=>exact sp_sub r T gs n pl C h av stk st l nx an ls ags cl pi ai ni hst hl hsl hnx k0 w0 w H
 |8,_=>exact sp_mul r T gs n pl C h av stk st l nx an ls ags cl pi ai ni hst hl hsl hnx k0 w0 w H
 |9,_=>exact sp_div r T gs n pl C h av stk st l nx an ls ags cl pi ai ni hst hl hsl hnx k0 w0 w H
 |10,_=>exact sp_mod r T gs n pl C h av stk st l nx an ls ags cl pi ai ni hst hl hsl hnx k0 w0 w H
 |11,_=>exact sp_less r T gs n pl C h av stk st l nx an ls ags cl pi ai ni hst hl hsl hnx k0 w0 w H
 |12,_=>exact sp_same r T gs n pl C h av stk st l nx an ls ags cl pi ai ni hst hl hsl hnx k0 w0 w H
 |13,_=>exact sp_not r T gs n pl C h av stk st l nx an ls ags cl pi ai ni hst hl hsl hnx k0 w0 w H
 |14,_=>
  obtain⟨hp,m,hm,hml⟩:=hj (by decide)
  exact sp_jump r T gs n pl C h av stk st l nx an ls ags cl pi ai ni hl hsl hnx m hp hm hml k0 w0 w H
 |15,_=>
  obtain⟨hp,m,hm,hml⟩:=hj (by decide)
  exact sp_when r T gs n pl C h av stk st l nx an ls ags cl pi ai ni hst hl hsl hnx m hp hm hml k0 w0 w H
 |16,_=>exact sp_arg r T gs n pl C h av stk st l nx an ls ags cl pi ai ni (h16 rfl) h8 hl hsl hnx k0 w0 w H
 |17,_=>exact sp_args r T gs n pl C h av stk st l nx an ls ags cl pi ai ni hl hsl hnx h8 k0 w0 w H
 |18,_=>exact zuM r T gs n pl C h av stk st l nx an ls ags cl hcl pi ai ni hl hsl hnx k0 w0 w H
 |19,_=>exact sp_self r T gs n pl C h av stk st l nx an ls ags cl hcl pi ai ni hl hsl hnx k0 w0 w H
 |20,_=>exact zzP r T gs n pl C h av stk st l nx an ls ags cl hcl pi ai ni hl hsl hnx k0 w0 w H
 |21,_=>exact zuL r T gs n pl C h av stk st l nx an ls ags cl hcl pi ai ni hl hsl hnx k0 w0 w H
 |22,_=>exact sp_time r T gs n pl C h av stk st l nx an ls ags cl hcl pi ai ni hl hsl hnx k0 w0 w H
 |23,_=>exact sp_gas r T gs n pl C h av stk st l nx an ls ags cl pi ai ni hl hsl hnx k0 w0 w H
 |k+24,hk=>exact absurd hk (by omega)
end Go.Proofs.YtedeobikfddmgaaGreat
