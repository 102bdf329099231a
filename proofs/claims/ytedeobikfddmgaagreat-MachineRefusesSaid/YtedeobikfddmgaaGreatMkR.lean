import Derived.Test.YtedeobikfddmgaaGreatMkAA
import Derived.Test.YtedeobikfddmgaaGreatMkQ
set_option maxRecDepth 100000
set_option maxHeartbeats 16000000
namespace Go.Proofs.YtedeobikfddmgaaGreat
open Go Go.RowKit
open Sha
open Wd
theorem zyS (c:Nat) (h:c<28):(mtab.drop (c*6)).take 6=rw c:=by
 match c,h with
 |0,_=>exact rfl
 |1,_=>exact rfl
 |2,_=>exact rfl
 |3,_=>exact rfl
 |4,_=>exact rfl
 |5,_=>exact rfl
 |6,_=>exact rfl
 |7,_=>exact rfl
 |8,_=>exact rfl
 |9,_=>exact rfl
 |10,_=>exact rfl
 |11,_=>exact rfl
 |12,_=>exact rfl
 |13,_=>exact rfl
 |14,_=>exact rfl
 |15,_=>exact rfl
 |16,_=>exact rfl
 |17,_=>exact rfl
 |18,_=>exact rfl
 |19,_=>exact rfl
 |20,_=>exact rfl
 |21,_=>exact rfl
 |22,_=>exact rfl
 |23,_=>exact rfl
 |24,_=>exact rfl
 |25,_=>exact rfl
 |26,_=>exact rfl
 |27,_=>exact rfl
 |n+28,h=>exact absurd h (by omega)
theorem ziC (c:Nat) (h:c<28) (j:Nat) (hj:j<6):mtab[c*6+j]?=(rw c)[j]?:=by
 rw[<-zyS c h,List.getElem?_take,if_pos hj,List.getElem?_drop]
theorem zoP:(Tryz.prog.info? 95).map (·.size)=some 6:=zyI
theorem zkN (r T gs n:Nat) (pl:Value) (C:List Value) (h av stk:Value) (ss:List Nat) (l nx:Nat) (an:List Value) (ls:List Ins) (ags:List Nat) (ci pi ai ni:Nat) (s:ByteArray) (k g t lv:Nat) (FF:FuncId) (hc:ci<28) (hrow:rw ci=[.string s,.int .i64 (k:Int),.int .i64 (g:Int),.int .i64 (t:Int),.int .i64 (lv:Int),.func (.func FF) #[] #[]]) (hk2:((k:Int)==2)=false) (hk3:((k:Int)==3)=false) (hg:g<=l) (hl:l<=10000) (ht:t<=ss.length) (hm:ss.length-t+lv<=64) (hlv:lv<=3) (hnx:nx<=1024) (k0 w0 w:World) (H:Rn k0 w0 w r T gs n pl C h av stk ss l nx an ls ags) (QQ:Int->World->Prop) (hcf:∀ args W,(callFunc FF args).run Tryz.prog W=.ok (.enter FF args) W) (hdo:∀ W,Rn k0 w0 W r T gs n pl C h av stk ss (l-g) (nx+1) an ls ags->Calls Tryz.prog FF #[.pointer (some ⟨r,0,none⟩),.agg (ic ci pi ai ni).toArray] W fun e w'=>∃ v,e=.returned (.int .i64 v)/\QQ v w'):Calls Tryz.prog 70 #[.pointer (some ⟨r,0,none⟩),.agg (ic ci pi ai ni).toArray] w fun e w'=>∃ v,e=.returned (.int .i64 v)/\QQ v w':=by
 obtain⟨A,cp,hst,_,_⟩:=Lw.form H.st
 subst hst
 have HH:Hid (Rn k0 w0 w r T gs n pl C h av (.slice A ss.length cp) ss l nx an ls ags):=H
 obtain⟨L,hL⟩:∃ L,L=ic ci pi ai ni:=⟨_,rfl⟩
 have HIC:Hid (L=ic ci pi ai ni):=hL
 have HI:Hid ((Tryz.prog.info? 97).map (·.size)=some L.length):=by show _=_;rw[hL];exact zcQ _ _ _ _
 rw[<-hL]
 rw[<-hL] at hdo
 have HDO:Hid (∀ W,Rn k0 w0 W r T gs n pl C h av (.slice A ss.length cp) ss (l-g) (nx+1) an ls ags->Calls Tryz.prog FF #[.pointer (some ⟨r,0,none⟩),.agg L.toArray] W fun e w'=>∃ v,e=.returned (.int .i64 v)/\QQ v w'):=hdo
 have HCFN:Hid (∀ args W,(callFunc FF args).run Tryz.prog W=.ok (.enter FF args) W):=hcf
 have HT6:Hid (∀ j v,[Value.string s,.int .i64 (k:Int),.int .i64 (g:Int),.int .i64 (t:Int),.int .i64 (lv:Int),.func (.func FF) #[] #[]][j]?=some v->mtab[ci*6+j]?=some v):=fun j v hj=>by
  have hlt:j<6:=(List.getElem?_eq_some_iff.1 hj).1
  rw[ziC ci hc j hlt,hrow]
  exact hj
 have HND:Hid (∀ W,Calls Tryz.prog 91 #[.agg #[.string s,.int .i64 (k:Int),.int .i64 (g:Int),.int .i64 (t:Int),.int .i64 (lv:Int),.func (.func FF) #[] #[]],.agg L.toArray] W fun e w'=>e=.returned (.tuple #[.int .i64 (t:Int),.int .i64 (lv:Int)])/\Below W.heap.size W w'):=fun W=>zaY _ _ k g t lv hk2 hk3 L W
 clear H hL hdo hrow hk2 hk3 hcf
 go_enter Tryz.func70,Tryz.ntmps70
 go_upto_region 1 with (refine zaF 97 rfl (.tmp 1) rfl L rfl ?_;intro X q1 q2 q3;have R1:Hid (Row X w.heap.size L 97):=q1;have HR:Hid (Rn k0 w0 X r T gs n pl C h av (.slice A ss.length cp) ss l nx an ls ags):=HH.out.keep q2;clear q1 q2 q3;simp only[Act.put,jA,jB,jC])
 obtain⟨b3,hb3⟩:∃ b,b=w.heap.size:=⟨_,rfl⟩
 rw[<-hb3] at R1
 rw[<-hb3]
 clear hb3
 have r0:X.cell? ⟨r,0,none⟩=some (.slice (some ⟨T,0,none⟩) 28 28):=HR.out.row.cell 0 _ rfl
 have i0:X.cell? ⟨b3,0,none⟩=some (.int .i64 (ci:Int)):=R1.out.cell 0 _ (by rw[HIC.out];rfl)
 have t0:X.cell? ⟨T,ci*6,none⟩=some (.string s):=HR.out.tab.cell _ _ (HT6.out 0 _ rfl)
 have t1:X.cell? ⟨T,ci*6+1,none⟩=some (.int .i64 (k:Int)):=HR.out.tab.cell _ _ (HT6.out 1 _ rfl)
 have t2:X.cell? ⟨T,ci*6+2,none⟩=some (.int .i64 (g:Int)):=HR.out.tab.cell _ _ (HT6.out 2 _ rfl)
 have t3:X.cell? ⟨T,ci*6+3,none⟩=some (.int .i64 (t:Int)):=HR.out.tab.cell _ _ (HT6.out 3 _ rfl)
 have t4:X.cell? ⟨T,ci*6+4,none⟩=some (.int .i64 (lv:Int)):=HR.out.tab.cell _ _ (HT6.out 4 _ rfl)
 have t5:X.cell? ⟨T,ci*6+5,none⟩=some (.func (.func FF) #[] #[]):=HR.out.tab.cell _ _ (HT6.out 5 _ rfl)
 have r0':(X.alloc (Obj.cells #[Value.string ⟨#[]⟩,.int .i64 0,.int .i64 0,.int .i64 0,.int .i64 0,.nilFunc] 95)).cell? ⟨r,0,none⟩=some (.slice (some ⟨T,0,none⟩) 28 28):=(Row.alloc HR.out.row _).cell 0 _ rfl
 have i0':(X.alloc (Obj.cells #[Value.string ⟨#[]⟩,.int .i64 0,.int .i64 0,.int .i64 0,.int .i64 0,.nilFunc] 95)).cell? ⟨b3,0,none⟩=some (.int .i64 (ci:Int)):=(Row.alloc R1.out _).cell 0 _ (by rw[HIC.out];rfl)
 have t0':(X.alloc (Obj.cells #[Value.string ⟨#[]⟩,.int .i64 0,.int .i64 0,.int .i64 0,.int .i64 0,.nilFunc] 95)).cell? ⟨T,ci*6,none⟩=some (.string s):=(Row.alloc HR.out.tab _).cell _ _ (HT6.out 0 _ rfl)
 have t1':(X.alloc (Obj.cells #[Value.string ⟨#[]⟩,.int .i64 0,.int .i64 0,.int .i64 0,.int .i64 0,.nilFunc] 95)).cell? ⟨T,ci*6+1,none⟩=some (.int .i64 (k:Int)):=(Row.alloc HR.out.tab _).cell _ _ (HT6.out 1 _ rfl)
 have t2':(X.alloc (Obj.cells #[Value.string ⟨#[]⟩,.int .i64 0,.int .i64 0,.int .i64 0,.int .i64 0,.nilFunc] 95)).cell? ⟨T,ci*6+2,none⟩=some (.int .i64 (g:Int)):=(Row.alloc HR.out.tab _).cell _ _ (HT6.out 2 _ rfl)
 have t3':(X.alloc (Obj.cells #[Value.string ⟨#[]⟩,.int .i64 0,.int .i64 0,.int .i64 0,.int .i64 0,.nilFunc] 95)).cell? ⟨T,ci*6+3,none⟩=some (.int .i64 (t:Int)):=(Row.alloc HR.out.tab _).cell _ _ (HT6.out 3 _ rfl)
 have t4':(X.alloc (Obj.cells #[Value.string ⟨#[]⟩,.int .i64 0,.int .i64 0,.int .i64 0,.int .i64 0,.nilFunc] 95)).cell? ⟨T,ci*6+4,none⟩=some (.int .i64 (lv:Int)):=(Row.alloc HR.out.tab _).cell _ _ (HT6.out 4 _ rfl)
 have t5':(X.alloc (Obj.cells #[Value.string ⟨#[]⟩,.int .i64 0,.int .i64 0,.int .i64 0,.int .i64 0,.nilFunc] 95)).cell? ⟨T,ci*6+5,none⟩=some (.func (.func FF) #[] #[]):=(Row.alloc HR.out.tab _).cell _ _ (HT6.out 5 _ rfl)
 have hci:(ci:Int)<28:=by omega
 have RZ:Row (X.alloc (Obj.cells #[Value.string ⟨#[]⟩,.int .i64 0,.int .i64 0,.int .i64 0,.int .i64 0,.nilFunc] 95)) X.heap.size [Value.string ⟨#[]⟩,.int .i64 0,.int .i64 0,.int .i64 0,.int .i64 0,.nilFunc] 95:=Row.new' rfl rfl
 have RZZ:Hid (Row (X.alloc (Obj.cells #[Value.string ⟨#[]⟩,.int .i64 0,.int .i64 0,.int .i64 0,.int .i64 0,.nilFunc] 95)) X.heap.size [Value.string ⟨#[]⟩,.int .i64 0,.int .i64 0,.int .i64 0,.int .i64 0,.nilFunc] 95):=RZ
 have z0:=RZ.cell 0 _ rfl
 have zf0:=RZ.thaw 0
 have z1:=RZ.cell 1 _ rfl
 have zf1:=RZ.thaw 1
 have z2:=RZ.cell 2 _ rfl
 have zf2:=RZ.thaw 2
 have z3:=RZ.cell 3 _ rfl
 have zf3:=RZ.thaw 3
 have z4:=RZ.cell 4 _ rfl
 have zf4:=RZ.thaw 4
 have z5:=RZ.cell 5 _ rfl
 have zf5:=RZ.thaw 5
 clear RZ
 have hst:Sem.run Tryz.prog (store ⟨X.heap.size,5,none⟩ (Value.func (.func FF) #[] #[])) (X.alloc (Obj.cells #[Value.string s,.int .i64 (k:Int),.int .i64 (g:Int),.int .i64 (t:Int),.int .i64 (lv:Int),.nilFunc] 95)).drew=.ok () (X.alloc (Obj.cells #[Value.string s,.int .i64 (k:Int),.int .i64 (g:Int),.int .i64 (t:Int),.int .i64 (lv:Int),.func (.func FF) #[] #[]] 95)).drew:=by
  rw[run_store _ _ _ _ _ rfl]
  go_simp
 go_region
 obtain⟨Y,hY⟩:∃ Y,Y=(X.alloc (Obj.cells #[Value.string s,.int .i64 (k:Int),.int .i64 (g:Int),.int .i64 (t:Int),.int .i64 (lv:Int),.func (.func FF) #[] #[]] 95)).drew:=⟨_,rfl⟩
 rw[<-hY]
 have R5:Hid (Row Y X.heap.size [Value.string s,.int .i64 (k:Int),.int .i64 (g:Int),.int .i64 (t:Int),.int .i64 (lv:Int),.func (.func FF) #[] #[]] 95):=by rw[hY];exact Row.new' rfl rfl
 have BY:Below X.heap.size X Y:=by rw[hY];exact ((Below.refl X.heap.size X).alloc (Nat.le_refl _) _).drew
 have HRY:Hid (Rn k0 w0 Y r T gs n pl C h av (.slice A ss.length cp) ss l nx an ls ags):=HR.out.keep BY
 have R3:Hid (Row Y b3 L 97):=Row.below R1.out BY R1.out.lt
 obtain⟨b5,hb5⟩:∃ b,b=X.heap.size:=⟨_,rfl⟩
 rw[<-hb5] at R5
 rw[<-hb5]
 clear hY hb5 BY hst RZZ r0 i0 t0 t1 t2 t3 t4 t5 r0' i0' t0' t1' t2' t3' t4' t5' z0 z1 z2 z3 z4 z5 zf0 zf1 zf2 zf3 zf4 zf5 HR R1 HH hci HT6
 have y2:=R5.out.cell 2 _ rfl
 have y53:Y.cell? ⟨r,53,none⟩=some (.int .i64 (l:Int)):=HRY.out.row.cell 53 _ (zbX HRY.out.clen 2)
 have hgl:¬ ((l:Int)<(g:Int)):=by omega
 go_upto_region 2 with fail
 go_quiet (fail)
 obtain⟨Z,hZ⟩:∃ Z,Z=Y.drewN nq:=⟨_,rfl⟩
 rw[<-hZ]
 replace R5:Hid (Row Z b5 [Value.string s,.int .i64 (k:Int),.int .i64 (g:Int),.int .i64 (t:Int),.int .i64 (lv:Int),.func (.func FF) #[] #[]] 95):=by rw[hZ];exact R5.out.drewN _
 replace R3:Hid (Row Z b3 L 97):=by rw[hZ];exact R3.out.drewN _
 have HRZ:Hid (Rn k0 w0 Z r T gs n pl C h av (.slice A ss.length cp) ss l nx an ls ags):=by rw[hZ];exact HRY.out.drewN _
 clear hZ y2 y53 HRY
 have y2:=R5.out.cell 2 _ rfl
 have y53:Z.cell? ⟨r,53,none⟩=some (.int .i64 (l:Int)):=HRZ.out.row.cell 53 _ (zbX HRZ.out.clen 2)
 have f53:=HRZ.out.row.thaw 53
 have elg:(l:Int)-(g:Int)=((l-g:Nat):Int):=by omega
 go_upto_region 4 with fail
 go_region
 obtain⟨V,hV⟩:∃ V,V=(Z.setCell ⟨r,53,none⟩ (.int .i64 ((l-g:Nat):Int))).drew:=⟨_,rfl⟩
 rw[<-hV]
 have GV:Gro (·=r) Z V:=by
  rw[hV]
  exact (((Gro.refl (·=r) Z).set r 53 _ rfl).below ((Below.refl _ _).drew))
 have HRV:Hid (Rn k0 w0 V r T gs n pl C h av (.slice A ss.length cp) ss (l-g) nx an ls ags):=HRZ.out.over GV HRZ.out.alen (by
  have q:=HRZ.out.row.set 53 (.int .i64 ((l-g:Nat):Int))
  rw[zhO HRZ.out.clen] at q
  rw[hV]
  exact q.drew)
 replace R5:Hid (Row V b5 [Value.string s,.int .i64 (k:Int),.int .i64 (g:Int),.int .i64 (t:Int),.int .i64 (lv:Int),.func (.func FF) #[] #[]] 95):=GV.row R5.out (zaN R5.out HRZ.out.row (by decide))
 replace R3:Hid (Row V b3 L 97):=GV.row R3.out (zaN R3.out HRZ.out.row (by decide))
 clear hV GV y2 y53 f53 elg HRZ hgl
 go_upto_region 6 with (first
  |(refine zaG rfl 95 (.tmp 5) rfl b5 0 rfl [Value.string s,.int .i64 (k:Int),.int .i64 (g:Int),.int .i64 (t:Int),.int .i64 (lv:Int),.func (.func FF) #[] #[]] _ R5.out.all Tryz.underlying95 rfl zoP ?_;simp only[Act.put,jA,jB,jC])
  |(refine zaG rfl 97 (.tmp 3) rfl b3 0 rfl L _ R3.out.all Tryz.underlying97 rfl HI.out ?_;simp only[Act.put,jA,jB,jC])
  |(go_at_call 91;refine Calls.mono (HND.out V) ?_;rintro e U ⟨rfl,q⟩;have HRU:Hid (Rn k0 w0 U r T gs n pl C h av (.slice A ss.length cp) ss (l-g) nx an ls ags):=HRV.out.keep q;have R5U:Hid (Row U b5 [Value.string s,.int .i64 (k:Int),.int .i64 (g:Int),.int .i64 (t:Int),.int .i64 (lv:Int),.func (.func FF) #[] #[]] 95):=Row.below R5.out q R5.out.lt;have R3U:Hid (Row U b3 L 97):=Row.below R3.out q R3.out.lt;clear q))
 have u52:U.cell? ⟨r,52,none⟩=some (.slice A ss.length cp):=HRU.out.row.cell 52 _ (zbX HRU.out.clen 1)
 have u54:U.cell? ⟨r,54,none⟩=some (.int .i64 (nx:Int)):=HRU.out.row.cell 54 _ (zbX HRU.out.clen 3)
 obtain⟨m,hm'⟩:∃ m,m=ss.length:=⟨_,rfl⟩
 rw[<-hm'] at u52 ht hm
 have htl:¬ ((m:Int)<(t:Int)):=by omega
 have e1:(m:Int)-(t:Int)=((m-t:Nat):Int):=by omega
 have hsz:¬ ((64:Int)<((m-t:Nat):Int)+(lv:Int)):=by omega
 have hmt:m-t<=64:=by omega
 have HMM:Hid (m=ss.length):=hm'
 have HL54:Hid (54<(rc T pl (.slice (some ⟨gs,0,none⟩) n n) C h (.slice A ss.length cp) (l-g) nx an).length):=by show _<_;rw[ziE HRU.out.clen HRU.out.alen];decide
 obtain⟨N1,hN1⟩:∃ N,N=nx+1:=⟨_,rfl⟩
 have en:(nx:Int)+1=(N1:Int):=by omega
 have HN1:Hid (N1=nx+1):=hN1
 rw[<-hN1] at HDO
 clear hm' R5 R3 HRV hN1
 go_upto_region 9 with (first
  |(refine zbI rfl 3 (.tmp 63) (.tmp 61) rfl r 54 (.int .i64 (N1:Int)) (rc T pl (.slice (some ⟨gs,0,none⟩) n n) C h (.slice A ss.length cp) (l-g) nx an) 79 rfl rfl rfl HRU.out.row HL54.out zfC rfl ?_;intro Z2 (RZ2:Hid (Row Z2 r ((rc T pl (.slice (some ⟨gs,0,none⟩) n n) C h (.slice A ss.length cp) (l-g) nx an).set 54 (.int .i64 (N1:Int))) 79)) (GZ:Hid (Gro (·=r) U Z2)) q3;clear q3;simp only[Act.put]))
 have HRZ2:Hid (Rn k0 w0 Z2 r T gs n pl C h av (.slice A ss.length cp) ss (l-g) N1 an ls ags):=HRU.out.over GZ.out HRU.out.alen (by
  have q:=RZ2.out
  rw[zkC HRU.out.clen] at q
  exact q)
 have R52:=GZ.out.row R5U.out (zaN R5U.out HRU.out.row (by decide))
 have R32:Hid (Row Z2 b3 L 97):=GZ.out.row R3U.out (zaN R3U.out HRU.out.row (by decide))
 have y5:=R52.cell 5 _ rfl
 have HCF:Hid _:=HDO.out Z2 HRZ2.out
 clear R52 RZ2 GZ u52 u54 en htl e1 hsz hmt HRU R5U R3U HL54
 have hcf:=HCFN.out #[.pointer (some ⟨r,0,none⟩),.agg L.toArray] Z2
 go_wp2_with (refine zaG rfl 97 (.tmp 3) rfl b3 0 rfl L _ R32.out.all Tryz.underlying97 rfl HI.out ?_;simp only[Act.put,jA,jB,jC])
 refine Calls.mono HCF.out ?_
 rintro e Z3 ⟨v,rfl,q⟩
 clear hcf
 go_wp2
 go_ret
 exact⟨v,rfl,q⟩
end Go.Proofs.YtedeobikfddmgaaGreat
