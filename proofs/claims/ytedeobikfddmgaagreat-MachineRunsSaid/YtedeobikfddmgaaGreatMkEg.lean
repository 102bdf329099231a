import Derived.Test.YtedeobikfddmgaaGreatMkAA
import Derived.Test.YtedeobikfddmgaaGreatMkEa
import Derived.BigRegion
set_option maxRecDepth 100000
set_option maxHeartbeats 16000000
namespace Go.Proofs.YtedeobikfddmgaaGreat
open Go Go.RowKit
open Sha
open Wd
theorem Rn.stk {k0 w0 w w':World} {r T gs n g m cp:Nat} {pl:Value} {C:List Value} {h av:Value} {ss ss2:List Nat} {l nx:Nat} {an:List Value} {ls:List Ins} {ags:List Nat} (H:Rn k0 w0 w r T gs n pl C h av (.slice (some ⟨g,0,none⟩) m cp) ss l nx an ls ags) (k:Gro (·=g) w w') (hs:Lw w' 27 4 (.slice (some ⟨g,0,none⟩) m cp) ss2.length (fw ss2)):Rn k0 w0 w' r T gs n pl C h av (.slice (some ⟨g,0,none⟩) m cp) ss2 l nx an ls ags:=by
 have hp:∀ q,pl.ownBlock=some q->¬ q=g:=fun q e eq=>by
  obtain⟨_,h2⟩:=H.prg
  rcases h2 with ⟨h2,_⟩|⟨g',cap,cur,hv,hg,hh,_⟩
  ·rw[h2] at e;cases e
  ·rw[hv] at e
   obtain rfl:g'=q:=by simpa [Value.ownBlock] using e
   have rr:Row w g' cur.toList 97:=by unfold Row;simpa using hh
   exact Lw.ne H.st rr (by decide) g rfl eq.symm
 exact⟨k.row H.row (Lw.ne H.st H.row (by decide) g rfl).symm,H.clen,H.alen,hs,k.row H.tab (Lw.ne H.st H.tab (by decide) g rfl).symm,Lw.gro H.prg k hp,k.row H.sta (Lw.ne H.st H.sta (by decide) g rfl).symm,H.cargs,Lw.gro H.arg k (fun q e eq=>H.apart g rfl (by rw[e,eq])),H.apart,H.be.trans (k.to_below H.be.size (fun q e=>by rw[e];exact H.slo g rfl)),H.rlo,H.slo,fun h1 h2 q=>k.row (H.kp h1 h2 q) (Lw.ne H.st (H.kp h1 h2 q) h2 g rfl).symm⟩
theorem zoL (ss:List Nat) (i x:Nat) (x0 x1 x2 x3:Value) (hx:wq x=[x0,x1,x2,x3]) (hi:i<ss.length):((((fw ss).set (i*4) x0).set (i*4+1) x1).set (i*4+2) x2).set (i*4+3) x3=fw (ss.set i x):=by
 induction ss generalizing i with
 |nil=>cases hi
 |cons y r ih=>
  have e:∀ y r,fw (y :: r)=wq y++fw r:=fun _ _=>rfl
  cases i with
  |zero=>
   rw[jB,e,e,hx,zaQ]
   rfl
  |succ k=>
   have hk:k<r.length:=by simpa using hi
   rw[jC,e,e,zaQ,<-ih k hk]
   rw[show (k+1)*4=k*4+4 by omega]
   rfl
theorem do_swap (r T gs n:Nat) (pl:Value) (C:List Value) (h av stk:Value) (ss:List Nat) (l nx:Nat) (an:List Value) (ls:List Ins) (ags:List Nat) (I:List Value) (ci pi ai ni x y:Nat) (hI:I=ic ci pi ai ni) (hn1:1<=ni) (hn:ni+1<=ss.length) (hx:ss[ss.length-1-ni]?=some x) (hy:ss[ss.length-1]?=some y) (k0 w0 w:World) (H:Rn k0 w0 w r T gs n pl C h av stk (ss) l nx an ls ags) (hss:ss.length<=900):Calls Tryz.prog 45 #[.pointer (some ⟨r,0,none⟩),.agg I.toArray] w fun e w'=>e=.returned (.int .i64 0)/\∃ stk',Rn k0 w0 w' r T gs n pl C h av stk' ((ss.set (ss.length-1) x).set (ss.length-1-ni) y) l nx an ls ags:=by
 obtain⟨g,cp,hsv,hcp⟩:=Lw.open H.st (by omega)
 subst hsv
 obtain⟨k,hk⟩:∃ k,k=ss.length:=⟨_,rfl⟩
 have HK:Hid (k=ss.length):=hk
 rw[<-hk] at H
 have HH:Hid (Rn k0 w0 w r T gs n pl C h av (.slice (some ⟨g,0,none⟩) k cp) (ss) l nx an ls ags):=H
 obtain⟨k1,hk1⟩:∃ k1,k1=k-1:=⟨_,rfl⟩
 obtain⟨m,hm⟩:∃ m,m=k1-ni:=⟨_,rfl⟩
 have e1:(k:Int)-1=(k1:Int):=by omega
 have e2:(k1:Int)-(ni:Int)=(m:Int):=by omega
 have hmk:m<k1:=by omega
 have hkk:k1<k:=by omega
 have hmk2:m<k:=by omega
 have hkl:k<=900:=by omega
 have hw1:IntKind.i64.wrap (k1:Int)=(k1:Int):=by rw[IntKind.wrap_i64];omega
 have hw2:IntKind.i64.wrap (m:Int)=(m:Int):=by rw[IntKind.wrap_i64];omega
 have hnl:ni<=900:=by omega
 rw[show ss.length-1-ni=m by omega] at hx
 rw[show ss.length-1=k1 by omega] at hy
 rw[show ss.length-1-ni=m by omega,show ss.length-1=k1 by omega]
 obtain⟨x0,hx0⟩:∃ a,a=((lim x 0:Nat):Int):=⟨_,rfl⟩
 obtain⟨x1,hx1⟩:∃ a,a=((lim x 1:Nat):Int):=⟨_,rfl⟩
 obtain⟨x2,hx2⟩:∃ a,a=((lim x 2:Nat):Int):=⟨_,rfl⟩
 obtain⟨x3,hx3⟩:∃ a,a=((lim x 3:Nat):Int):=⟨_,rfl⟩
 obtain⟨y0,hy0⟩:∃ a,a=((lim y 0:Nat):Int):=⟨_,rfl⟩
 obtain⟨y1,hy1⟩:∃ a,a=((lim y 1:Nat):Int):=⟨_,rfl⟩
 obtain⟨y2,hy2⟩:∃ a,a=((lim y 2:Nat):Int):=⟨_,rfl⟩
 obtain⟨y3,hy3⟩:∃ a,a=((lim y 3:Nat):Int):=⟨_,rfl⟩
 have HX:Hid (wq x=[.int .u64 x0,.int .u64 x1,.int .u64 x2,.int .u64 x3]):=by show _=_;rw[zaQ,hx0,hx1,hx2,hx3]
 have HY:Hid (wq y=[.int .u64 y0,.int .u64 y1,.int .u64 y2,.int .u64 y3]):=by show _=_;rw[zaQ,hy0,hy1,hy2,hy3]
 have HXX:Hid (ss[m]?=some x):=hx
 have HYY:Hid (ss[k1]?=some y):=hy
 have HIC:Hid (I=ic ci pi ai ni):=hI
 clear H hss hI hx0 hx1 hx2 hx3 hy0 hy1 hy2 hy3 hx hy hk hk1 hm hcp hn hn1
 go_enter Tryz.func45,Tryz.ntmps45
 go_upto_region 1 with (refine zaF 97 rfl (.tmp 1) rfl I rfl ?_;intro X1 q1 q2 q3;have R1:Hid (Row X1 w.heap.size I 97):=q1;have HR:Hid (Rn k0 w0 X1 r T gs n pl C h av (.slice (some ⟨g,0,none⟩) k cp) (ss) l nx an ls ags):=HH.out.keep q2;clear q1 q2 q3;simp only[Act.put,jA,jB,jC])
 have c6:X1.cell? ⟨w.heap.size,6,none⟩=some (.int .i64 (ni:Int)):=R1.out.cell 6 _ (by rw[HIC.out];exact zsZ _ _ _ _)
 have c52:X1.cell? ⟨r,52,none⟩=some (.slice (some ⟨g,0,none⟩) k cp):=HR.out.row.cell 52 _ (zbX HR.out.clen 1)
 obtain⟨b3,hb3⟩:∃ b,b=w.heap.size:=⟨_,rfl⟩
 rw[<-hb3] at c6
 rw[<-hb3]
 have hst:=HR.out.st
 rw[<-HK.out] at hst
 have RGx:X1.rangeAt g (m*4) [.int .u64 x0,.int .u64 x1,.int .u64 x2,.int .u64 x3]:=by rw[<-HX.out];exact zjV (Lw.range hst) m x HXX.out
 have RGy:X1.rangeAt g (k1*4) [.int .u64 y0,.int .u64 y1,.int .u64 y2,.int .u64 y3]:=by rw[<-HY.out];exact zjV (Lw.range hst) k1 y HYY.out
 obtain⟨cur,hRG,hcl,hct⟩:∃ cur:List Value,Row X1 g cur 27/\(k<=cp/\cp<=maxLen/\cur.length=cp*4)/\cur.take (k*4)=fw ss:=by
  obtain⟨hl,h2⟩:=hst
  rcases h2 with ⟨h2,_⟩|⟨g',cap',cur,hv,hg,hh,hc,hx,hs,ht⟩
  ·cases h2
  ·simp only[Value.slice.injEq,Option.some.injEq,Addr.mk.injEq] at hv
   obtain⟨⟨rfl,_,_⟩,_,rfl⟩:=hv
   exact⟨cur.toList,by unfold Row;simpa using hh,⟨hc,hx,by simpa using hs⟩,ht⟩
 have RG:Hid (Row X1 g cur 27):=hRG
 have a0:X1.cell? ⟨g,m*4,none⟩=some (.int .u64 x0):=RGx 0 _ rfl
 have af0:X1.frozen? ⟨g,m*4,none⟩=false:=RG.out.thaw _
 have a1:X1.cell? ⟨g,m*4+1,none⟩=some (.int .u64 x1):=RGx 1 _ rfl
 have af1:X1.frozen? ⟨g,m*4+1,none⟩=false:=RG.out.thaw _
 have a2:X1.cell? ⟨g,m*4+2,none⟩=some (.int .u64 x2):=RGx 2 _ rfl
 have af2:X1.frozen? ⟨g,m*4+2,none⟩=false:=RG.out.thaw _
 have a3:X1.cell? ⟨g,m*4+3,none⟩=some (.int .u64 x3):=RGx 3 _ rfl
 have af3:X1.frozen? ⟨g,m*4+3,none⟩=false:=RG.out.thaw _
 have p0:X1.cell? ⟨g,k1*4,none⟩=some (.int .u64 y0):=RGy 0 _ rfl
 have pf0:X1.frozen? ⟨g,k1*4,none⟩=false:=RG.out.thaw _
 have p1:X1.cell? ⟨g,k1*4+1,none⟩=some (.int .u64 y1):=RGy 1 _ rfl
 have pf1:X1.frozen? ⟨g,k1*4+1,none⟩=false:=RG.out.thaw _
 have p2:X1.cell? ⟨g,k1*4+2,none⟩=some (.int .u64 y2):=RGy 2 _ rfl
 have pf2:X1.frozen? ⟨g,k1*4+2,none⟩=false:=RG.out.thaw _
 have p3:X1.cell? ⟨g,k1*4+3,none⟩=some (.int .u64 y3):=RGy 3 _ rfl
 have pf3:X1.frozen? ⟨g,k1*4+3,none⟩=false:=RG.out.thaw _
 have HCUR:Hid ((k<=cp/\cp<=maxLen/\cur.length=cp*4)/\cur.take (k*4)=fw ss):=⟨hcl,hct⟩
 have hbg:¬ b3=g:=by rw[hb3];exact zaN R1.out RG.out (by decide)
 have hgb:¬ g=b3:=fun e=>hbg e.symm
 have hgr:¬ g=r:=zaN RG.out HR.out.row (by decide)
 have hrg:¬ r=g:=fun e=>hgr e.symm
 have o00:¬ m*4=k1*4:=by omega
 have u00:¬ k1*4=m*4:=by omega
 have o01:¬ m*4=k1*4+1:=by omega
 have u01:¬ k1*4+1=m*4:=by omega
 have o02:¬ m*4=k1*4+2:=by omega
 have u02:¬ k1*4+2=m*4:=by omega
 have o03:¬ m*4=k1*4+3:=by omega
 have u03:¬ k1*4+3=m*4:=by omega
 have o10:¬ m*4+1=k1*4:=by omega
 have u10:¬ k1*4=m*4+1:=by omega
 have o11:¬ m*4+1=k1*4+1:=by omega
 have u11:¬ k1*4+1=m*4+1:=by omega
 have o12:¬ m*4+1=k1*4+2:=by omega
 have u12:¬ k1*4+2=m*4+1:=by omega
 have o13:¬ m*4+1=k1*4+3:=by omega
 have u13:¬ k1*4+3=m*4+1:=by omega
 have o20:¬ m*4+2=k1*4:=by omega
 have u20:¬ k1*4=m*4+2:=by omega
 have o21:¬ m*4+2=k1*4+1:=by omega
 have u21:¬ k1*4+1=m*4+2:=by omega
 have o22:¬ m*4+2=k1*4+2:=by omega
 have u22:¬ k1*4+2=m*4+2:=by omega
 have o23:¬ m*4+2=k1*4+3:=by omega
 have u23:¬ k1*4+3=m*4+2:=by omega
 have o30:¬ m*4+3=k1*4:=by omega
 have u30:¬ k1*4=m*4+3:=by omega
 have o31:¬ m*4+3=k1*4+1:=by omega
 have u31:¬ k1*4+1=m*4+3:=by omega
 have o32:¬ m*4+3=k1*4+2:=by omega
 have u32:¬ k1*4+2=m*4+3:=by omega
 have o33:¬ m*4+3=k1*4+3:=by omega
 have u33:¬ k1*4+3=m*4+3:=by omega
 clear hb3 RGx RGy R1 HIC hst hRG hcl hct
 go_upto_region 2 with fail
 go_region
 obtain⟨V,hV⟩:∃ V,V=((((((((X1.setCell ⟨g,k1*4,none⟩ (.int .u64 x0)).setCell ⟨g,k1*4+1,none⟩ (.int .u64 x1)).setCell ⟨g,k1*4+2,none⟩ (.int .u64 x2)).setCell ⟨g,k1*4+3,none⟩ (.int .u64 x3)).setCell ⟨g,m*4,none⟩ (.int .u64 y0)).setCell ⟨g,m*4+1,none⟩ (.int .u64 y1)).setCell ⟨g,m*4+2,none⟩ (.int .u64 y2)).setCell ⟨g,m*4+3,none⟩ (.int .u64 y3)).drew:=⟨_,rfl⟩
 rw[<-hV]
 have RV:Row V g ((((((((cur.set (k1*4) (.int .u64 x0)).set (k1*4+1) (.int .u64 x1)).set (k1*4+2) (.int .u64 x2)).set (k1*4+3) (.int .u64 x3)).set (m*4) (.int .u64 y0)).set (m*4+1) (.int .u64 y1)).set (m*4+2) (.int .u64 y2)).set (m*4+3) (.int .u64 y3)) 27:=by rw[hV];exact ((((((((RG.out.set (k1*4) (.int .u64 x0)).set (k1*4+1) (.int .u64 x1)).set (k1*4+2) (.int .u64 x2)).set (k1*4+3) (.int .u64 x3)).set (m*4) (.int .u64 y0)).set (m*4+1) (.int .u64 y1)).set (m*4+2) (.int .u64 y2)).set (m*4+3) (.int .u64 y3)).drew
 have GV:Gro (·=g) X1 V:=by rw[hV];exact (((((((((Gro.refl (·=g) X1).set g (k1*4) (.int .u64 x0) rfl).set g (k1*4+1) (.int .u64 x1) rfl).set g (k1*4+2) (.int .u64 x2) rfl).set g (k1*4+3) (.int .u64 x3) rfl).set g (m*4) (.int .u64 y0) rfl).set g (m*4+1) (.int .u64 y1) rfl).set g (m*4+2) (.int .u64 y2) rfl).set g (m*4+3) (.int .u64 y3) rfl).below ((Below.refl _ _).drew)
 have hlen:((ss.set k1 x).set m y).length=k:=by rw[List.length_set,List.length_set];exact HK.out.symm
 have LV:Lw V 27 4 (.slice (some ⟨g,0,none⟩) k cp) ((ss.set k1 x).set m y).length (fw ((ss.set k1 x).set m y)):=by
  refine⟨zfO _,.inr ⟨g,cp,((((((((cur.set (k1*4) (.int .u64 x0)).set (k1*4+1) (.int .u64 x1)).set (k1*4+2) (.int .u64 x2)).set (k1*4+3) (.int .u64 x3)).set (m*4) (.int .u64 y0)).set (m*4+1) (.int .u64 y1)).set (m*4+2) (.int .u64 y2)).set (m*4+3) (.int .u64 y3)).toArray,by rw[hlen],Nat.zero_le _,RV,by rw[hlen];exact HCUR.out.1.1,HCUR.out.1.2.1,?_,?_⟩⟩
  ·simp only[List.size_toArray,List.length_set]
   exact HCUR.out.1.2.2
  ·rw[hlen]
   simp only[List.take_set]
   rw[HCUR.out.2,zoL ss k1 x _ _ _ _ HX.out (by rw[<-HK.out];exact hkk),zoL (ss.set k1 x) m y _ _ _ _ HY.out (by rw[List.length_set,<-HK.out];exact hmk2)]
 have HQ:Hid (Rn k0 w0 V r T gs n pl C h av (.slice (some ⟨g,0,none⟩) k cp) ((ss.set k1 x).set m y) l nx an ls ags):=HR.out.stk GV LV
 clear RV GV LV hV
 go_wp2_with fail
 go_ret
 exact⟨rfl,_,HQ.out⟩
end Go.Proofs.YtedeobikfddmgaaGreat
