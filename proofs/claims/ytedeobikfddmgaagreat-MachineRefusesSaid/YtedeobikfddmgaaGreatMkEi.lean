import Derived.Test.YtedeobikfddmgaaGreatMkAA
import Derived.Test.YtedeobikfddmgaaGreatMkR
import Derived.Test.YtedeobikfddmgaaGreatMkEa
import Derived.Test.YtedeobikfddmgaaGreatMkDb
set_option maxRecDepth 100000
set_option maxHeartbeats 16000000
namespace Go.Proofs.YtedeobikfddmgaaGreat
open Go Go.RowKit
open Sha
open Wd
theorem zpI (r T gs n:Nat) (pl:Value) (C:List Value) (h av stk:Value) (ss:List Nat) (l nx:Nat) (an:List Value) (ls:List Ins) (ags:List Nat) (ci pi ai ni:Nat) (s:ByteArray) (k g t lv:Nat) (FF:FuncId) (hc:ci<28) (hrow:rw ci=[.string s,.int .i64 (k:Int),.int .i64 (g:Int),.int .i64 (t:Int),.int .i64 (lv:Int),.func (.func FF) #[] #[]]) (tt ll:Nat) (hnd:∀ W,Calls Tryz.prog 91 #[.agg #[.string s,.int .i64 (k:Int),.int .i64 (g:Int),.int .i64 (t:Int),.int .i64 (lv:Int),.func (.func FF) #[] #[]],.agg (ic ci pi ai ni).toArray] W fun e w'=>e=.returned (.tuple #[.int .i64 (tt:Int),.int .i64 (ll:Int)])/\Below W.heap.size W w') (hg:g<=l) (hl:l<=10000) (ht:tt<=ss.length) (hm:ss.length-tt+ll<=64) (hlv:ll<=64) (hnx:nx<=1024) (k0 w0 w:World) (H:Rn k0 w0 w r T gs n pl C h av stk ss l nx an ls ags) (QQ:Int->World->Prop) (hcf:∀ args W,(callFunc FF args).run Tryz.prog W=.ok (.enter FF args) W) (hdo:∀ W,Rn k0 w0 W r T gs n pl C h av stk ss (l-g) (nx+1) an ls ags->Calls Tryz.prog FF #[.pointer (some ⟨r,0,none⟩),.agg (ic ci pi ai ni).toArray] W fun e w'=>∃ v,e=.returned (.int .i64 v)/\QQ v w'):Calls Tryz.prog 70 #[.pointer (some ⟨r,0,none⟩),.agg (ic ci pi ai ni).toArray] w fun e w'=>∃ v,e=.returned (.int .i64 v)/\QQ v w':=by
 obtain⟨A,cp,hst,_,_⟩:=Lw.form H.st
 subst hst
 have HH:Hid (Rn k0 w0 w r T gs n pl C h av (.slice A ss.length cp) ss l nx an ls ags):=H
 obtain⟨L,hL⟩:∃ L,L=ic ci pi ai ni:=⟨_,rfl⟩
 have HIC:Hid (L=ic ci pi ai ni):=hL
 have HI:Hid ((Tryz.prog.info? 97).map (·.size)=some L.length):=by show _=_;rw[hL];exact zcQ _ _ _ _
 rw[<-hL]
 rw[<-hL] at hdo
 have HDO:Hid (∀ W,Rn k0 w0 W r T gs n pl C h av (.slice A ss.length cp) ss (l-g) (nx+1) an ls ags->Calls Tryz.prog FF #[.pointer (some ⟨r,0,none⟩),.agg L.toArray] W fun e w'=>∃ v,e=.returned (.int .i64 v)/\QQ v w'):=hdo
 have HCFN:Hid (∀ args W,(callFunc FF args).run Tryz.prog W=.ok (.enter FF args) W):=hcf
 have HT6:Hid (∀ j v,[Value.string s,.int .i64 (k:Int),.int .i64 (g:Int),.int .i64 (t:Int),.int .i64 (lv:Int),.func (.func FF) #[] #[]][j]?=some v->mtab[ci*6+j]?=some v):=fun j v hj=>by
  have hlt:j<6:=(List.getElem?_eq_some_iff.1 hj).1
  rw[ziC ci hc j hlt,hrow]
  exact hj
 have HND:Hid (∀ W,Calls Tryz.prog 91 #[.agg #[.string s,.int .i64 (k:Int),.int .i64 (g:Int),.int .i64 (t:Int),.int .i64 (lv:Int),.func (.func FF) #[] #[]],.agg L.toArray] W fun e w'=>e=.returned (.tuple #[.int .i64 (tt:Int),.int .i64 (ll:Int)])/\Below W.heap.size W w'):=fun W=>by rw[hL];exact hnd W
 clear H hL hdo hrow hnd hcf
 go_enter Tryz.func70,Tryz.ntmps70
 go_upto_region 1 with (refine zaF 97 rfl (.tmp 1) rfl L rfl ?_;intro X q1 q2 q3;have R1:Hid (Row X w.heap.size L 97):=q1;have HR:Hid (Rn k0 w0 X r T gs n pl C h av (.slice A ss.length cp) ss l nx an ls ags):=HH.out.keep q2;clear q1 q2 q3;simp only[Act.put,jA,jB,jC])
 obtain⟨b3,hb3⟩:∃ b,b=w.heap.size:=⟨_,rfl⟩
 rw[<-hb3] at R1
 rw[<-hb3]
 clear hb3
 have r0:X.cell? ⟨r,0,none⟩=some (.slice (some ⟨T,0,none⟩) 28 28):=HR.out.row.cell 0 _ rfl
 have i0:X.cell? ⟨b3,0,none⟩=some (.int .i64 (ci:Int)):=R1.out.cell 0 _ (by rw[HIC.out];rfl)
 have t0:X.cell? ⟨T,ci*6,none⟩=some (.string s):=HR.out.tab.cell _ _ (HT6.out 0 _ rfl)
 have t1:X.cell? ⟨T,ci*6+1,none⟩=some (.int .i64 (k:Int)):=HR.out.tab.cell _ _ (HT6.out 1 _ rfl)
 have t2:X.cell? ⟨T,ci*6+2,none⟩=some (.int .i64 (g:Int)):=HR.out.tab.cell _ _ (HT6.out 2 _ rfl)
 have t3:X.cell? ⟨T,ci*6+3,none⟩=some (.int .i64 (t:Int)):=HR.out.tab.cell _ _ (HT6.out 3 _ rfl)
 have t4:X.cell? ⟨T,ci*6+4,none⟩=some (.int .i64 (lv:Int)):=HR.out.tab.cell _ _ (HT6.out 4 _ rfl)
 have t5:X.cell? ⟨T,ci*6+5,none⟩=some (.func (.func FF) #[] #[]):=HR.out.tab.cell _ _ (HT6.out 5 _ rfl)
 have r0':(X.alloc (Obj.cells #[Value.string ⟨#[]⟩,.int .i64 0,.int .i64 0,.int .i64 0,.int .i64 0,.nilFunc] 95)).cell? ⟨r,0,none⟩=some (.slice (some ⟨T,0,none⟩) 28 28):=(Row.alloc HR.out.row _).cell 0 _ rfl
 have i0':(X.alloc (Obj.cells #[Value.string ⟨#[]⟩,.int .i64 0,.int .i64 0,.int .i64 0,.int .i64 0,.nilFunc] 95)).cell? ⟨b3,0,none⟩=some (.int .i64 (ci:Int)):=(Row.alloc R1.out _).cell 0 _ (by rw[HIC.out];rfl)
 have t0':(X.alloc (Obj.cells #[Value.string ⟨#[]⟩,.int .i64 0,.int .i64 0,.int .i64 0,.int .i64 0,.nilFunc] 95)).cell? ⟨T,ci*6,none⟩=some (.string s):=(Row.alloc HR.out.tab _).cell _ _ (HT6.out 0 _ rfl)
 have t1':(X.alloc (Obj.cells #[Value.string ⟨#[]⟩,.int .i64 0,.int .i64 0,.int .i64 0,.int .i64 0,.nilFunc] 95)).cell? ⟨T,ci*6+1,none⟩=some (.int .i64 (k:Int)):=(Row.alloc HR.out.tab _).cell _ _ (HT6.out 1 _ rfl)
 have t2':(X.alloc (Obj.cells #[Value.string ⟨#[]⟩,.int .i64 0,.int .i64 0,.int .i64 0,.int .i64 0,.nilFunc] 95)).cell? ⟨T,ci*6+2,none⟩=some (.int .i64 (g:Int)):=(Row.alloc HR.out.tab _).cell _ _ (HT6.out 2 _ rfl)
 have t3':(X.alloc (Obj.cells #[Value.string ⟨#[]⟩,.int .i64 0,.int .i64 0,.int .i64 0,.int .i64 0,.nilFunc] 95)).cell? ⟨T,ci*6+3,none⟩=some (.int .i64 (t:Int)):=(Row.alloc HR.out.tab _).cell _ _ (HT6.out 3 _ rfl)
 have t4':(X.alloc (Obj.cells #[Value.string ⟨#[]⟩,.int .i64 0,.int .i64 0,.int .i64 0,.int .i64 0,.nilFunc] 95)).cell? ⟨T,ci*6+4,none⟩=some (.int .i64 (lv:Int)):=(Row.alloc HR.out.tab _).cell _ _ (HT6.out 4 _ rfl)
 have t5':(X.alloc (Obj.cells #[Value.string ⟨#[]⟩,.int .i64 0,.int .i64 0,.int .i64 0,.int .i64 0,.nilFunc] 95)).cell? ⟨T,ci*6+5,none⟩=some (.func (.func FF) #[] #[]):=(Row.alloc HR.out.tab _).cell _ _ (HT6.out 5 _ rfl)
 have hci:(ci:Int)<28:=by omega
 have RZ:Row (X.alloc (Obj.cells #[Value.string ⟨#[]⟩,.int .i64 0,.int .i64 0,.int .i64 0,.int .i64 0,.nilFunc] 95)) X.heap.size [Value.string ⟨#[]⟩,.int .i64 0,.int .i64 0,.int .i64 0,.int .i64 0,.nilFunc] 95:=Row.new' rfl rfl
 have RZZ:Hid (Row (X.alloc (Obj.cells #[Value.string ⟨#[]⟩,.int .i64 0,.int .i64 0,.int .i64 0,.int .i64 0,.nilFunc] 95)) X.heap.size [Value.string ⟨#[]⟩,.int .i64 0,.int .i64 0,.int .i64 0,.int .i64 0,.nilFunc] 95):=RZ
 have z0:=RZ.cell 0 _ rfl
 have zf0:=RZ.thaw 0
 have z1:=RZ.cell 1 _ rfl
 have zf1:=RZ.thaw 1
 have z2:=RZ.cell 2 _ rfl
 have zf2:=RZ.thaw 2
 have z3:=RZ.cell 3 _ rfl
 have zf3:=RZ.thaw 3
 have z4:=RZ.cell 4 _ rfl
 have zf4:=RZ.thaw 4
 have z5:=RZ.cell 5 _ rfl
 have zf5:=RZ.thaw 5
 clear RZ
 have hst:Sem.run Tryz.prog (store ⟨X.heap.size,5,none⟩ (Value.func (.func FF) #[] #[])) (X.alloc (Obj.cells #[Value.string s,.int .i64 (k:Int),.int .i64 (g:Int),.int .i64 (t:Int),.int .i64 (lv:Int),.nilFunc] 95)).drew=.ok () (X.alloc (Obj.cells #[Value.string s,.int .i64 (k:Int),.int .i64 (g:Int),.int .i64 (t:Int),.int .i64 (lv:Int),.func (.func FF) #[] #[]] 95)).drew:=by
  rw[run_store _ _ _ _ _ rfl]
  go_simp
 go_region
 obtain⟨Y,hY⟩:∃ Y,Y=(X.alloc (Obj.cells #[Value.string s,.int .i64 (k:Int),.int .i64 (g:Int),.int .i64 (t:Int),.int .i64 (lv:Int),.func (.func FF) #[] #[]] 95)).drew:=⟨_,rfl⟩
 rw[<-hY]
 have R5:Hid (Row Y X.heap.size [Value.string s,.int .i64 (k:Int),.int .i64 (g:Int),.int .i64 (t:Int),.int .i64 (lv:Int),.func (.func FF) #[] #[]] 95):=by rw[hY];exact Row.new' rfl rfl
 have BY:Below X.heap.size X Y:=by rw[hY];exact ((Below.refl X.heap.size X).alloc (Nat.le_refl _) _).drew
 have HRY:Hid (Rn k0 w0 Y r T gs n pl C h av (.slice A ss.length cp) ss l nx an ls ags):=HR.out.keep BY
 have R3:Hid (Row Y b3 L 97):=Row.below R1.out BY R1.out.lt
 obtain⟨b5,hb5⟩:∃ b,b=X.heap.size:=⟨_,rfl⟩
 rw[<-hb5] at R5
 rw[<-hb5]
 clear hY hb5 BY hst RZZ r0 i0 t0 t1 t2 t3 t4 t5 r0' i0' t0' t1' t2' t3' t4' t5' z0 z1 z2 z3 z4 z5 zf0 zf1 zf2 zf3 zf4 zf5 HR R1 HH hci HT6
 have y2:=R5.out.cell 2 _ rfl
 have y53:Y.cell? ⟨r,53,none⟩=some (.int .i64 (l:Int)):=HRY.out.row.cell 53 _ (zbX HRY.out.clen 2)
 have hgl:¬ ((l:Int)<(g:Int)):=by omega
 go_upto_region 2 with fail
 go_quiet (fail)
 obtain⟨Z,hZ⟩:∃ Z,Z=Y.drewN nq:=⟨_,rfl⟩
 rw[<-hZ]
 replace R5:Hid (Row Z b5 [Value.string s,.int .i64 (k:Int),.int .i64 (g:Int),.int .i64 (t:Int),.int .i64 (lv:Int),.func (.func FF) #[] #[]] 95):=by rw[hZ];exact R5.out.drewN _
 replace R3:Hid (Row Z b3 L 97):=by rw[hZ];exact R3.out.drewN _
 have HRZ:Hid (Rn k0 w0 Z r T gs n pl C h av (.slice A ss.length cp) ss l nx an ls ags):=by rw[hZ];exact HRY.out.drewN _
 clear hZ y2 y53 HRY
 have y2:=R5.out.cell 2 _ rfl
 have y53:Z.cell? ⟨r,53,none⟩=some (.int .i64 (l:Int)):=HRZ.out.row.cell 53 _ (zbX HRZ.out.clen 2)
 have f53:=HRZ.out.row.thaw 53
 have elg:(l:Int)-(g:Int)=((l-g:Nat):Int):=by omega
 go_upto_region 4 with fail
 go_region
 obtain⟨V,hV⟩:∃ V,V=(Z.setCell ⟨r,53,none⟩ (.int .i64 ((l-g:Nat):Int))).drew:=⟨_,rfl⟩
 rw[<-hV]
 have GV:Gro (·=r) Z V:=by
  rw[hV]
  exact (((Gro.refl (·=r) Z).set r 53 _ rfl).below ((Below.refl _ _).drew))
 have HRV:Hid (Rn k0 w0 V r T gs n pl C h av (.slice A ss.length cp) ss (l-g) nx an ls ags):=HRZ.out.over GV HRZ.out.alen (by
  have q:=HRZ.out.row.set 53 (.int .i64 ((l-g:Nat):Int))
  rw[zhO HRZ.out.clen] at q
  rw[hV]
  exact q.drew)
 replace R5:Hid (Row V b5 [Value.string s,.int .i64 (k:Int),.int .i64 (g:Int),.int .i64 (t:Int),.int .i64 (lv:Int),.func (.func FF) #[] #[]] 95):=GV.row R5.out (zaN R5.out HRZ.out.row (by decide))
 replace R3:Hid (Row V b3 L 97):=GV.row R3.out (zaN R3.out HRZ.out.row (by decide))
 clear hV GV y2 y53 f53 elg HRZ hgl
 go_upto_region 6 with (first
  |(refine zaG rfl 95 (.tmp 5) rfl b5 0 rfl [Value.string s,.int .i64 (k:Int),.int .i64 (g:Int),.int .i64 (t:Int),.int .i64 (lv:Int),.func (.func FF) #[] #[]] _ R5.out.all Tryz.underlying95 rfl zoP ?_;simp only[Act.put,jA,jB,jC])
  |(refine zaG rfl 97 (.tmp 3) rfl b3 0 rfl L _ R3.out.all Tryz.underlying97 rfl HI.out ?_;simp only[Act.put,jA,jB,jC])
  |(go_at_call 91;refine Calls.mono (HND.out V) ?_;rintro e U ⟨rfl,q⟩;have HRU:Hid (Rn k0 w0 U r T gs n pl C h av (.slice A ss.length cp) ss (l-g) nx an ls ags):=HRV.out.keep q;have R5U:Hid (Row U b5 [Value.string s,.int .i64 (k:Int),.int .i64 (g:Int),.int .i64 (t:Int),.int .i64 (lv:Int),.func (.func FF) #[] #[]] 95):=Row.below R5.out q R5.out.lt;have R3U:Hid (Row U b3 L 97):=Row.below R3.out q R3.out.lt;clear q))
 have u52:U.cell? ⟨r,52,none⟩=some (.slice A ss.length cp):=HRU.out.row.cell 52 _ (zbX HRU.out.clen 1)
 have u54:U.cell? ⟨r,54,none⟩=some (.int .i64 (nx:Int)):=HRU.out.row.cell 54 _ (zbX HRU.out.clen 3)
 obtain⟨m,hm'⟩:∃ m,m=ss.length:=⟨_,rfl⟩
 rw[<-hm'] at u52 ht hm
 have htl:¬ ((m:Int)<(tt:Int)):=by omega
 have e1:(m:Int)-(tt:Int)=((m-tt:Nat):Int):=by omega
 have hsz:¬ ((64:Int)<((m-tt:Nat):Int)+(ll:Int)):=by omega
 have hmt:m-tt<=64:=by omega
 have HMM:Hid (m=ss.length):=hm'
 have HL54:Hid (54<(rc T pl (.slice (some ⟨gs,0,none⟩) n n) C h (.slice A ss.length cp) (l-g) nx an).length):=by show _<_;rw[ziE HRU.out.clen HRU.out.alen];decide
 obtain⟨N1,hN1⟩:∃ N,N=nx+1:=⟨_,rfl⟩
 have en:(nx:Int)+1=(N1:Int):=by omega
 have HN1:Hid (N1=nx+1):=hN1
 rw[<-hN1] at HDO
 clear hm' R5 R3 HRV hN1
 go_upto_region 9 with (first
  |(refine zbI rfl 3 (.tmp 63) (.tmp 61) rfl r 54 (.int .i64 (N1:Int)) (rc T pl (.slice (some ⟨gs,0,none⟩) n n) C h (.slice A ss.length cp) (l-g) nx an) 79 rfl rfl rfl HRU.out.row HL54.out zfC rfl ?_;intro Z2 (RZ2:Hid (Row Z2 r ((rc T pl (.slice (some ⟨gs,0,none⟩) n n) C h (.slice A ss.length cp) (l-g) nx an).set 54 (.int .i64 (N1:Int))) 79)) (GZ:Hid (Gro (·=r) U Z2)) q3;clear q3;simp only[Act.put]))
 have HRZ2:Hid (Rn k0 w0 Z2 r T gs n pl C h av (.slice A ss.length cp) ss (l-g) N1 an ls ags):=HRU.out.over GZ.out HRU.out.alen (by
  have q:=RZ2.out
  rw[zkC HRU.out.clen] at q
  exact q)
 have R52:=GZ.out.row R5U.out (zaN R5U.out HRU.out.row (by decide))
 have R32:Hid (Row Z2 b3 L 97):=GZ.out.row R3U.out (zaN R3U.out HRU.out.row (by decide))
 have y5:=R52.cell 5 _ rfl
 have HCF:Hid _:=HDO.out Z2 HRZ2.out
 clear R52 RZ2 GZ u52 u54 en htl e1 hsz hmt HRU R5U R3U HL54
 have hcf:=HCFN.out #[.pointer (some ⟨r,0,none⟩),.agg L.toArray] Z2
 go_wp2_with (refine zaG rfl 97 (.tmp 3) rfl b3 0 rfl L _ R32.out.all Tryz.underlying97 rfl HI.out ?_;simp only[Act.put,jA,jB,jC])
 refine Calls.mono HCF.out ?_
 rintro e Z3 ⟨v,rfl,q⟩
 clear hcf
 go_wp2
 go_ret
 exact⟨v,rfl,q⟩
theorem zlX (r T gs n:Nat) (pl:Value) (C:List Value) (h av stk:Value) (ss:List Nat) (l nx:Nat) (an:List Value) (ls:List Ins) (ags:List Nat) (ci pi ai ni:Nat) (s:ByteArray) (k g t lv:Nat) (FF:FuncId) (hc:ci<28) (hrow:rw ci=[.string s,.int .i64 (k:Int),.int .i64 (g:Int),.int .i64 (t:Int),.int .i64 (lv:Int),.func (.func FF) #[] #[]]) (tt ll:Nat) (hnd:∀ W,Calls Tryz.prog 91 #[.agg #[.string s,.int .i64 (k:Int),.int .i64 (g:Int),.int .i64 (t:Int),.int .i64 (lv:Int),.func (.func FF) #[] #[]],.agg (ic ci pi ai ni).toArray] W fun e w'=>e=.returned (.tuple #[.int .i64 (tt:Int),.int .i64 (ll:Int)])/\Below W.heap.size W w') (hg:g<=l) (hl:l<=10000) (ht:tt<=ss.length) (hm:64<ss.length-tt+ll) (hlv:ll<=64) (hsl:ss.length<=1000) (k0 w0 w:World) (H:Rn k0 w0 w r T gs n pl C h av stk ss l nx an ls ags):Calls Tryz.prog 70 #[.pointer (some ⟨r,0,none⟩),.agg (ic ci pi ai ni).toArray] w fun e w'=>e=.returned (.int .i64 103)/\Rn k0 w0 w' r T gs n pl C h av stk ss (l-g) nx an ls ags:=by
 obtain⟨A,cp,hst,_,_⟩:=Lw.form H.st
 subst hst
 have HH:Hid (Rn k0 w0 w r T gs n pl C h av (.slice A ss.length cp) ss l nx an ls ags):=H
 obtain⟨L,hL⟩:∃ L,L=ic ci pi ai ni:=⟨_,rfl⟩
 have HIC:Hid (L=ic ci pi ai ni):=hL
 have HI:Hid ((Tryz.prog.info? 97).map (·.size)=some L.length):=by show _=_;rw[hL];exact zcQ _ _ _ _
 rw[<-hL]
 have HT6:Hid (∀ j v,[Value.string s,.int .i64 (k:Int),.int .i64 (g:Int),.int .i64 (t:Int),.int .i64 (lv:Int),.func (.func FF) #[] #[]][j]?=some v->mtab[ci*6+j]?=some v):=fun j v hj=>by
  have hlt:j<6:=(List.getElem?_eq_some_iff.1 hj).1
  rw[ziC ci hc j hlt,hrow]
  exact hj
 have HND:Hid (∀ W,Calls Tryz.prog 91 #[.agg #[.string s,.int .i64 (k:Int),.int .i64 (g:Int),.int .i64 (t:Int),.int .i64 (lv:Int),.func (.func FF) #[] #[]],.agg L.toArray] W fun e w'=>e=.returned (.tuple #[.int .i64 (tt:Int),.int .i64 (ll:Int)])/\Below W.heap.size W w'):=fun W=>by rw[hL];exact hnd W
 clear H hL hrow hnd
 go_enter Tryz.func70,Tryz.ntmps70
 go_upto_region 1 with (refine zaF 97 rfl (.tmp 1) rfl L rfl ?_;intro X q1 q2 q3;have R1:Hid (Row X w.heap.size L 97):=q1;have HR:Hid (Rn k0 w0 X r T gs n pl C h av (.slice A ss.length cp) ss l nx an ls ags):=HH.out.keep q2;clear q1 q2 q3;simp only[Act.put,jA,jB,jC])
 obtain⟨b3,hb3⟩:∃ b,b=w.heap.size:=⟨_,rfl⟩
 rw[<-hb3] at R1
 rw[<-hb3]
 clear hb3
 have r0:X.cell? ⟨r,0,none⟩=some (.slice (some ⟨T,0,none⟩) 28 28):=HR.out.row.cell 0 _ rfl
 have i0:X.cell? ⟨b3,0,none⟩=some (.int .i64 (ci:Int)):=R1.out.cell 0 _ (by rw[HIC.out];rfl)
 have t0:X.cell? ⟨T,ci*6,none⟩=some (.string s):=HR.out.tab.cell _ _ (HT6.out 0 _ rfl)
 have t1:X.cell? ⟨T,ci*6+1,none⟩=some (.int .i64 (k:Int)):=HR.out.tab.cell _ _ (HT6.out 1 _ rfl)
 have t2:X.cell? ⟨T,ci*6+2,none⟩=some (.int .i64 (g:Int)):=HR.out.tab.cell _ _ (HT6.out 2 _ rfl)
 have t3:X.cell? ⟨T,ci*6+3,none⟩=some (.int .i64 (t:Int)):=HR.out.tab.cell _ _ (HT6.out 3 _ rfl)
 have t4:X.cell? ⟨T,ci*6+4,none⟩=some (.int .i64 (lv:Int)):=HR.out.tab.cell _ _ (HT6.out 4 _ rfl)
 have t5:X.cell? ⟨T,ci*6+5,none⟩=some (.func (.func FF) #[] #[]):=HR.out.tab.cell _ _ (HT6.out 5 _ rfl)
 have r0':(X.alloc (Obj.cells #[Value.string ⟨#[]⟩,.int .i64 0,.int .i64 0,.int .i64 0,.int .i64 0,.nilFunc] 95)).cell? ⟨r,0,none⟩=some (.slice (some ⟨T,0,none⟩) 28 28):=(Row.alloc HR.out.row _).cell 0 _ rfl
 have i0':(X.alloc (Obj.cells #[Value.string ⟨#[]⟩,.int .i64 0,.int .i64 0,.int .i64 0,.int .i64 0,.nilFunc] 95)).cell? ⟨b3,0,none⟩=some (.int .i64 (ci:Int)):=(Row.alloc R1.out _).cell 0 _ (by rw[HIC.out];rfl)
 have t0':(X.alloc (Obj.cells #[Value.string ⟨#[]⟩,.int .i64 0,.int .i64 0,.int .i64 0,.int .i64 0,.nilFunc] 95)).cell? ⟨T,ci*6,none⟩=some (.string s):=(Row.alloc HR.out.tab _).cell _ _ (HT6.out 0 _ rfl)
 have t1':(X.alloc (Obj.cells #[Value.string ⟨#[]⟩,.int .i64 0,.int .i64 0,.int .i64 0,.int .i64 0,.nilFunc] 95)).cell? ⟨T,ci*6+1,none⟩=some (.int .i64 (k:Int)):=(Row.alloc HR.out.tab _).cell _ _ (HT6.out 1 _ rfl)
 have t2':(X.alloc (Obj.cells #[Value.string ⟨#[]⟩,.int .i64 0,.int .i64 0,.int .i64 0,.int .i64 0,.nilFunc] 95)).cell? ⟨T,ci*6+2,none⟩=some (.int .i64 (g:Int)):=(Row.alloc HR.out.tab _).cell _ _ (HT6.out 2 _ rfl)
 have t3':(X.alloc (Obj.cells #[Value.string ⟨#[]⟩,.int .i64 0,.int .i64 0,.int .i64 0,.int .i64 0,.nilFunc] 95)).cell? ⟨T,ci*6+3,none⟩=some (.int .i64 (t:Int)):=(Row.alloc HR.out.tab _).cell _ _ (HT6.out 3 _ rfl)
 have t4':(X.alloc (Obj.cells #[Value.string ⟨#[]⟩,.int .i64 0,.int .i64 0,.int .i64 0,.int .i64 0,.nilFunc] 95)).cell? ⟨T,ci*6+4,none⟩=some (.int .i64 (lv:Int)):=(Row.alloc HR.out.tab _).cell _ _ (HT6.out 4 _ rfl)
 have t5':(X.alloc (Obj.cells #[Value.string ⟨#[]⟩,.int .i64 0,.int .i64 0,.int .i64 0,.int .i64 0,.nilFunc] 95)).cell? ⟨T,ci*6+5,none⟩=some (.func (.func FF) #[] #[]):=(Row.alloc HR.out.tab _).cell _ _ (HT6.out 5 _ rfl)
 have hci:(ci:Int)<28:=by omega
 have RZ:Row (X.alloc (Obj.cells #[Value.string ⟨#[]⟩,.int .i64 0,.int .i64 0,.int .i64 0,.int .i64 0,.nilFunc] 95)) X.heap.size [Value.string ⟨#[]⟩,.int .i64 0,.int .i64 0,.int .i64 0,.int .i64 0,.nilFunc] 95:=Row.new' rfl rfl
 have RZZ:Hid (Row (X.alloc (Obj.cells #[Value.string ⟨#[]⟩,.int .i64 0,.int .i64 0,.int .i64 0,.int .i64 0,.nilFunc] 95)) X.heap.size [Value.string ⟨#[]⟩,.int .i64 0,.int .i64 0,.int .i64 0,.int .i64 0,.nilFunc] 95):=RZ
 have z0:=RZ.cell 0 _ rfl
 have zf0:=RZ.thaw 0
 have z1:=RZ.cell 1 _ rfl
 have zf1:=RZ.thaw 1
 have z2:=RZ.cell 2 _ rfl
 have zf2:=RZ.thaw 2
 have z3:=RZ.cell 3 _ rfl
 have zf3:=RZ.thaw 3
 have z4:=RZ.cell 4 _ rfl
 have zf4:=RZ.thaw 4
 have z5:=RZ.cell 5 _ rfl
 have zf5:=RZ.thaw 5
 clear RZ
 have hst:Sem.run Tryz.prog (store ⟨X.heap.size,5,none⟩ (Value.func (.func FF) #[] #[])) (X.alloc (Obj.cells #[Value.string s,.int .i64 (k:Int),.int .i64 (g:Int),.int .i64 (t:Int),.int .i64 (lv:Int),.nilFunc] 95)).drew=.ok () (X.alloc (Obj.cells #[Value.string s,.int .i64 (k:Int),.int .i64 (g:Int),.int .i64 (t:Int),.int .i64 (lv:Int),.func (.func FF) #[] #[]] 95)).drew:=by
  rw[run_store _ _ _ _ _ rfl]
  go_simp
 go_region
 obtain⟨Y,hY⟩:∃ Y,Y=(X.alloc (Obj.cells #[Value.string s,.int .i64 (k:Int),.int .i64 (g:Int),.int .i64 (t:Int),.int .i64 (lv:Int),.func (.func FF) #[] #[]] 95)).drew:=⟨_,rfl⟩
 rw[<-hY]
 have R5:Hid (Row Y X.heap.size [Value.string s,.int .i64 (k:Int),.int .i64 (g:Int),.int .i64 (t:Int),.int .i64 (lv:Int),.func (.func FF) #[] #[]] 95):=by rw[hY];exact Row.new' rfl rfl
 have BY:Below X.heap.size X Y:=by rw[hY];exact ((Below.refl X.heap.size X).alloc (Nat.le_refl _) _).drew
 have HRY:Hid (Rn k0 w0 Y r T gs n pl C h av (.slice A ss.length cp) ss l nx an ls ags):=HR.out.keep BY
 have R3:Hid (Row Y b3 L 97):=Row.below R1.out BY R1.out.lt
 obtain⟨b5,hb5⟩:∃ b,b=X.heap.size:=⟨_,rfl⟩
 rw[<-hb5] at R5
 rw[<-hb5]
 clear hY hb5 BY hst RZZ r0 i0 t0 t1 t2 t3 t4 t5 r0' i0' t0' t1' t2' t3' t4' t5' z0 z1 z2 z3 z4 z5 zf0 zf1 zf2 zf3 zf4 zf5 HR R1 HH hci HT6
 have y2:=R5.out.cell 2 _ rfl
 have y53:Y.cell? ⟨r,53,none⟩=some (.int .i64 (l:Int)):=HRY.out.row.cell 53 _ (zbX HRY.out.clen 2)
 have hgl:¬ ((l:Int)<(g:Int)):=by omega
 go_upto_region 2 with fail
 go_quiet (fail)
 obtain⟨Z,hZ⟩:∃ Z,Z=Y.drewN nq:=⟨_,rfl⟩
 rw[<-hZ]
 replace R5:Hid (Row Z b5 [Value.string s,.int .i64 (k:Int),.int .i64 (g:Int),.int .i64 (t:Int),.int .i64 (lv:Int),.func (.func FF) #[] #[]] 95):=by rw[hZ];exact R5.out.drewN _
 replace R3:Hid (Row Z b3 L 97):=by rw[hZ];exact R3.out.drewN _
 have HRZ:Hid (Rn k0 w0 Z r T gs n pl C h av (.slice A ss.length cp) ss l nx an ls ags):=by rw[hZ];exact HRY.out.drewN _
 clear hZ y2 y53 HRY
 have y2:=R5.out.cell 2 _ rfl
 have y53:Z.cell? ⟨r,53,none⟩=some (.int .i64 (l:Int)):=HRZ.out.row.cell 53 _ (zbX HRZ.out.clen 2)
 have f53:=HRZ.out.row.thaw 53
 have elg:(l:Int)-(g:Int)=((l-g:Nat):Int):=by omega
 go_upto_region 4 with fail
 go_region
 obtain⟨V,hV⟩:∃ V,V=(Z.setCell ⟨r,53,none⟩ (.int .i64 ((l-g:Nat):Int))).drew:=⟨_,rfl⟩
 rw[<-hV]
 have GV:Gro (·=r) Z V:=by
  rw[hV]
  exact (((Gro.refl (·=r) Z).set r 53 _ rfl).below ((Below.refl _ _).drew))
 have HRV:Hid (Rn k0 w0 V r T gs n pl C h av (.slice A ss.length cp) ss (l-g) nx an ls ags):=HRZ.out.over GV HRZ.out.alen (by
  have q:=HRZ.out.row.set 53 (.int .i64 ((l-g:Nat):Int))
  rw[zhO HRZ.out.clen] at q
  rw[hV]
  exact q.drew)
 replace R5:Hid (Row V b5 [Value.string s,.int .i64 (k:Int),.int .i64 (g:Int),.int .i64 (t:Int),.int .i64 (lv:Int),.func (.func FF) #[] #[]] 95):=GV.row R5.out (zaN R5.out HRZ.out.row (by decide))
 replace R3:Hid (Row V b3 L 97):=GV.row R3.out (zaN R3.out HRZ.out.row (by decide))
 clear hV GV y2 y53 f53 elg HRZ hgl
 go_upto_region 6 with (first
  |(refine zaG rfl 95 (.tmp 5) rfl b5 0 rfl [Value.string s,.int .i64 (k:Int),.int .i64 (g:Int),.int .i64 (t:Int),.int .i64 (lv:Int),.func (.func FF) #[] #[]] _ R5.out.all Tryz.underlying95 rfl zoP ?_;simp only[Act.put,jA,jB,jC])
  |(refine zaG rfl 97 (.tmp 3) rfl b3 0 rfl L _ R3.out.all Tryz.underlying97 rfl HI.out ?_;simp only[Act.put,jA,jB,jC])
  |(go_at_call 91;refine Calls.mono (HND.out V) ?_;rintro e U ⟨rfl,q⟩;have HRU:Hid (Rn k0 w0 U r T gs n pl C h av (.slice A ss.length cp) ss (l-g) nx an ls ags):=HRV.out.keep q;have R5U:Hid (Row U b5 [Value.string s,.int .i64 (k:Int),.int .i64 (g:Int),.int .i64 (t:Int),.int .i64 (lv:Int),.func (.func FF) #[] #[]] 95):=Row.below R5.out q R5.out.lt;have R3U:Hid (Row U b3 L 97):=Row.below R3.out q R3.out.lt;clear q))
 have u52:U.cell? ⟨r,52,none⟩=some (.slice A ss.length cp):=HRU.out.row.cell 52 _ (zbX HRU.out.clen 1)
 obtain⟨m,hm'⟩:∃ m,m=ss.length:=⟨_,rfl⟩
 rw[<-hm'] at u52 ht hm hsl
 have htl:¬ ((m:Int)<(tt:Int)):=by omega
 have e1:(m:Int)-(tt:Int)=((m-tt:Nat):Int):=by omega
 have hmt:m-tt<=1000:=by omega
 have hsz:((64:Int)<((m-tt:Nat):Int)+(ll:Int)):=by omega
 clear hm' R5 R3 HRV
 go_wp2_with fail
 go_ret
 exact⟨rfl,HRU.out⟩
theorem zpG (r T gs n:Nat) (pl:Value) (C:List Value) (h av stk:Value) (ss:List Nat) (l nx:Nat) (an:List Value) (ls:List Ins) (ags:List Nat) (ci pi ai ni:Nat) (s:ByteArray) (k g t lv:Nat) (FF:FuncId) (hc:ci<28) (hrow:rw ci=[.string s,.int .i64 (k:Int),.int .i64 (g:Int),.int .i64 (t:Int),.int .i64 (lv:Int),.func (.func FF) #[] #[]]) (tt ll:Nat) (hnd:∀ W,Calls Tryz.prog 91 #[.agg #[.string s,.int .i64 (k:Int),.int .i64 (g:Int),.int .i64 (t:Int),.int .i64 (lv:Int),.func (.func FF) #[] #[]],.agg (ic ci pi ai ni).toArray] W fun e w'=>e=.returned (.tuple #[.int .i64 (tt:Int),.int .i64 (ll:Int)])/\Below W.heap.size W w') (hg:g<=l) (hl:l<=10000) (ht:ss.length<tt) (k0 w0 w:World) (H:Rn k0 w0 w r T gs n pl C h av stk ss l nx an ls ags):Calls Tryz.prog 70 #[.pointer (some ⟨r,0,none⟩),.agg (ic ci pi ai ni).toArray] w fun e w'=>e=.returned (.int .i64 103)/\Rn k0 w0 w' r T gs n pl C h av stk ss (l-g) nx an ls ags:=by
 obtain⟨A,cp,hst,_,_⟩:=Lw.form H.st
 subst hst
 have HH:Hid (Rn k0 w0 w r T gs n pl C h av (.slice A ss.length cp) ss l nx an ls ags):=H
 obtain⟨L,hL⟩:∃ L,L=ic ci pi ai ni:=⟨_,rfl⟩
 have HIC:Hid (L=ic ci pi ai ni):=hL
 have HI:Hid ((Tryz.prog.info? 97).map (·.size)=some L.length):=by show _=_;rw[hL];exact zcQ _ _ _ _
 rw[<-hL]
 have HT6:Hid (∀ j v,[Value.string s,.int .i64 (k:Int),.int .i64 (g:Int),.int .i64 (t:Int),.int .i64 (lv:Int),.func (.func FF) #[] #[]][j]?=some v->mtab[ci*6+j]?=some v):=fun j v hj=>by
  have hlt:j<6:=(List.getElem?_eq_some_iff.1 hj).1
  rw[ziC ci hc j hlt,hrow]
  exact hj
 have HND:Hid (∀ W,Calls Tryz.prog 91 #[.agg #[.string s,.int .i64 (k:Int),.int .i64 (g:Int),.int .i64 (t:Int),.int .i64 (lv:Int),.func (.func FF) #[] #[]],.agg L.toArray] W fun e w'=>e=.returned (.tuple #[.int .i64 (tt:Int),.int .i64 (ll:Int)])/\Below W.heap.size W w'):=fun W=>by rw[hL];exact hnd W
 clear H hL hrow hnd
 go_enter Tryz.func70,Tryz.ntmps70
 go_upto_region 1 with (refine zaF 97 rfl (.tmp 1) rfl L rfl ?_;intro X q1 q2 q3;have R1:Hid (Row X w.heap.size L 97):=q1;have HR:Hid (Rn k0 w0 X r T gs n pl C h av (.slice A ss.length cp) ss l nx an ls ags):=HH.out.keep q2;clear q1 q2 q3;simp only[Act.put,jA,jB,jC])
 obtain⟨b3,hb3⟩:∃ b,b=w.heap.size:=⟨_,rfl⟩
 rw[<-hb3] at R1
 rw[<-hb3]
 clear hb3
 have r0:X.cell? ⟨r,0,none⟩=some (.slice (some ⟨T,0,none⟩) 28 28):=HR.out.row.cell 0 _ rfl
 have i0:X.cell? ⟨b3,0,none⟩=some (.int .i64 (ci:Int)):=R1.out.cell 0 _ (by rw[HIC.out];rfl)
 have t0:X.cell? ⟨T,ci*6,none⟩=some (.string s):=HR.out.tab.cell _ _ (HT6.out 0 _ rfl)
 have t1:X.cell? ⟨T,ci*6+1,none⟩=some (.int .i64 (k:Int)):=HR.out.tab.cell _ _ (HT6.out 1 _ rfl)
 have t2:X.cell? ⟨T,ci*6+2,none⟩=some (.int .i64 (g:Int)):=HR.out.tab.cell _ _ (HT6.out 2 _ rfl)
 have t3:X.cell? ⟨T,ci*6+3,none⟩=some (.int .i64 (t:Int)):=HR.out.tab.cell _ _ (HT6.out 3 _ rfl)
 have t4:X.cell? ⟨T,ci*6+4,none⟩=some (.int .i64 (lv:Int)):=HR.out.tab.cell _ _ (HT6.out 4 _ rfl)
 have t5:X.cell? ⟨T,ci*6+5,none⟩=some (.func (.func FF) #[] #[]):=HR.out.tab.cell _ _ (HT6.out 5 _ rfl)
 have r0':(X.alloc (Obj.cells #[Value.string ⟨#[]⟩,.int .i64 0,.int .i64 0,.int .i64 0,.int .i64 0,.nilFunc] 95)).cell? ⟨r,0,none⟩=some (.slice (some ⟨T,0,none⟩) 28 28):=(Row.alloc HR.out.row _).cell 0 _ rfl
 have i0':(X.alloc (Obj.cells #[Value.string ⟨#[]⟩,.int .i64 0,.int .i64 0,.int .i64 0,.int .i64 0,.nilFunc] 95)).cell? ⟨b3,0,none⟩=some (.int .i64 (ci:Int)):=(Row.alloc R1.out _).cell 0 _ (by rw[HIC.out];rfl)
 have t0':(X.alloc (Obj.cells #[Value.string ⟨#[]⟩,.int .i64 0,.int .i64 0,.int .i64 0,.int .i64 0,.nilFunc] 95)).cell? ⟨T,ci*6,none⟩=some (.string s):=(Row.alloc HR.out.tab _).cell _ _ (HT6.out 0 _ rfl)
 have t1':(X.alloc (Obj.cells #[Value.string ⟨#[]⟩,.int .i64 0,.int .i64 0,.int .i64 0,.int .i64 0,.nilFunc] 95)).cell? ⟨T,ci*6+1,none⟩=some (.int .i64 (k:Int)):=(Row.alloc HR.out.tab _).cell _ _ (HT6.out 1 _ rfl)
 have t2':(X.alloc (Obj.cells #[Value.string ⟨#[]⟩,.int .i64 0,.int .i64 0,.int .i64 0,.int .i64 0,.nilFunc] 95)).cell? ⟨T,ci*6+2,none⟩=some (.int .i64 (g:Int)):=(Row.alloc HR.out.tab _).cell _ _ (HT6.out 2 _ rfl)
 have t3':(X.alloc (Obj.cells #[Value.string ⟨#[]⟩,.int .i64 0,.int .i64 0,.int .i64 0,.int .i64 0,.nilFunc] 95)).cell? ⟨T,ci*6+3,none⟩=some (.int .i64 (t:Int)):=(Row.alloc HR.out.tab _).cell _ _ (HT6.out 3 _ rfl)
 have t4':(X.alloc (Obj.cells #[Value.string ⟨#[]⟩,.int .i64 0,.int .i64 0,.int .i64 0,.int .i64 0,.nilFunc] 95)).cell? ⟨T,ci*6+4,none⟩=some (.int .i64 (lv:Int)):=(Row.alloc HR.out.tab _).cell _ _ (HT6.out 4 _ rfl)
 have t5':(X.alloc (Obj.cells #[Value.string ⟨#[]⟩,.int .i64 0,.int .i64 0,.int .i64 0,.int .i64 0,.nilFunc] 95)).cell? ⟨T,ci*6+5,none⟩=some (.func (.func FF) #[] #[]):=(Row.alloc HR.out.tab _).cell _ _ (HT6.out 5 _ rfl)
 have hci:(ci:Int)<28:=by omega
 have RZ:Row (X.alloc (Obj.cells #[Value.string ⟨#[]⟩,.int .i64 0,.int .i64 0,.int .i64 0,.int .i64 0,.nilFunc] 95)) X.heap.size [Value.string ⟨#[]⟩,.int .i64 0,.int .i64 0,.int .i64 0,.int .i64 0,.nilFunc] 95:=Row.new' rfl rfl
 have RZZ:Hid (Row (X.alloc (Obj.cells #[Value.string ⟨#[]⟩,.int .i64 0,.int .i64 0,.int .i64 0,.int .i64 0,.nilFunc] 95)) X.heap.size [Value.string ⟨#[]⟩,.int .i64 0,.int .i64 0,.int .i64 0,.int .i64 0,.nilFunc] 95):=RZ
 have z0:=RZ.cell 0 _ rfl
 have zf0:=RZ.thaw 0
 have z1:=RZ.cell 1 _ rfl
 have zf1:=RZ.thaw 1
 have z2:=RZ.cell 2 _ rfl
 have zf2:=RZ.thaw 2
 have z3:=RZ.cell 3 _ rfl
 have zf3:=RZ.thaw 3
 have z4:=RZ.cell 4 _ rfl
 have zf4:=RZ.thaw 4
 have z5:=RZ.cell 5 _ rfl
 have zf5:=RZ.thaw 5
 clear RZ
 have hst:Sem.run Tryz.prog (store ⟨X.heap.size,5,none⟩ (Value.func (.func FF) #[] #[])) (X.alloc (Obj.cells #[Value.string s,.int .i64 (k:Int),.int .i64 (g:Int),.int .i64 (t:Int),.int .i64 (lv:Int),.nilFunc] 95)).drew=.ok () (X.alloc (Obj.cells #[Value.string s,.int .i64 (k:Int),.int .i64 (g:Int),.int .i64 (t:Int),.int .i64 (lv:Int),.func (.func FF) #[] #[]] 95)).drew:=by
  rw[run_store _ _ _ _ _ rfl]
  go_simp
 go_region
 obtain⟨Y,hY⟩:∃ Y,Y=(X.alloc (Obj.cells #[Value.string s,.int .i64 (k:Int),.int .i64 (g:Int),.int .i64 (t:Int),.int .i64 (lv:Int),.func (.func FF) #[] #[]] 95)).drew:=⟨_,rfl⟩
 rw[<-hY]
 have R5:Hid (Row Y X.heap.size [Value.string s,.int .i64 (k:Int),.int .i64 (g:Int),.int .i64 (t:Int),.int .i64 (lv:Int),.func (.func FF) #[] #[]] 95):=by rw[hY];exact Row.new' rfl rfl
 have BY:Below X.heap.size X Y:=by rw[hY];exact ((Below.refl X.heap.size X).alloc (Nat.le_refl _) _).drew
 have HRY:Hid (Rn k0 w0 Y r T gs n pl C h av (.slice A ss.length cp) ss l nx an ls ags):=HR.out.keep BY
 have R3:Hid (Row Y b3 L 97):=Row.below R1.out BY R1.out.lt
 obtain⟨b5,hb5⟩:∃ b,b=X.heap.size:=⟨_,rfl⟩
 rw[<-hb5] at R5
 rw[<-hb5]
 clear hY hb5 BY hst RZZ r0 i0 t0 t1 t2 t3 t4 t5 r0' i0' t0' t1' t2' t3' t4' t5' z0 z1 z2 z3 z4 z5 zf0 zf1 zf2 zf3 zf4 zf5 HR R1 HH hci HT6
 have y2:=R5.out.cell 2 _ rfl
 have y53:Y.cell? ⟨r,53,none⟩=some (.int .i64 (l:Int)):=HRY.out.row.cell 53 _ (zbX HRY.out.clen 2)
 have hgl:¬ ((l:Int)<(g:Int)):=by omega
 go_upto_region 2 with fail
 go_quiet (fail)
 obtain⟨Z,hZ⟩:∃ Z,Z=Y.drewN nq:=⟨_,rfl⟩
 rw[<-hZ]
 replace R5:Hid (Row Z b5 [Value.string s,.int .i64 (k:Int),.int .i64 (g:Int),.int .i64 (t:Int),.int .i64 (lv:Int),.func (.func FF) #[] #[]] 95):=by rw[hZ];exact R5.out.drewN _
 replace R3:Hid (Row Z b3 L 97):=by rw[hZ];exact R3.out.drewN _
 have HRZ:Hid (Rn k0 w0 Z r T gs n pl C h av (.slice A ss.length cp) ss l nx an ls ags):=by rw[hZ];exact HRY.out.drewN _
 clear hZ y2 y53 HRY
 have y2:=R5.out.cell 2 _ rfl
 have y53:Z.cell? ⟨r,53,none⟩=some (.int .i64 (l:Int)):=HRZ.out.row.cell 53 _ (zbX HRZ.out.clen 2)
 have f53:=HRZ.out.row.thaw 53
 have elg:(l:Int)-(g:Int)=((l-g:Nat):Int):=by omega
 go_upto_region 4 with fail
 go_region
 obtain⟨V,hV⟩:∃ V,V=(Z.setCell ⟨r,53,none⟩ (.int .i64 ((l-g:Nat):Int))).drew:=⟨_,rfl⟩
 rw[<-hV]
 have GV:Gro (·=r) Z V:=by
  rw[hV]
  exact (((Gro.refl (·=r) Z).set r 53 _ rfl).below ((Below.refl _ _).drew))
 have HRV:Hid (Rn k0 w0 V r T gs n pl C h av (.slice A ss.length cp) ss (l-g) nx an ls ags):=HRZ.out.over GV HRZ.out.alen (by
  have q:=HRZ.out.row.set 53 (.int .i64 ((l-g:Nat):Int))
  rw[zhO HRZ.out.clen] at q
  rw[hV]
  exact q.drew)
 replace R5:Hid (Row V b5 [Value.string s,.int .i64 (k:Int),.int .i64 (g:Int),.int .i64 (t:Int),.int .i64 (lv:Int),.func (.func FF) #[] #[]] 95):=GV.row R5.out (zaN R5.out HRZ.out.row (by decide))
 replace R3:Hid (Row V b3 L 97):=GV.row R3.out (zaN R3.out HRZ.out.row (by decide))
 clear hV GV y2 y53 f53 elg HRZ hgl
 go_upto_region 6 with (first
  |(refine zaG rfl 95 (.tmp 5) rfl b5 0 rfl [Value.string s,.int .i64 (k:Int),.int .i64 (g:Int),.int .i64 (t:Int),.int .i64 (lv:Int),.func (.func FF) #[] #[]] _ R5.out.all Tryz.underlying95 rfl zoP ?_;simp only[Act.put,jA,jB,jC])
  |(refine zaG rfl 97 (.tmp 3) rfl b3 0 rfl L _ R3.out.all Tryz.underlying97 rfl HI.out ?_;simp only[Act.put,jA,jB,jC])
  |(go_at_call 91;refine Calls.mono (HND.out V) ?_;rintro e U ⟨rfl,q⟩;have HRU:Hid (Rn k0 w0 U r T gs n pl C h av (.slice A ss.length cp) ss (l-g) nx an ls ags):=HRV.out.keep q;have R5U:Hid (Row U b5 [Value.string s,.int .i64 (k:Int),.int .i64 (g:Int),.int .i64 (t:Int),.int .i64 (lv:Int),.func (.func FF) #[] #[]] 95):=Row.below R5.out q R5.out.lt;have R3U:Hid (Row U b3 L 97):=Row.below R3.out q R3.out.lt;clear q))
 have u52:U.cell? ⟨r,52,none⟩=some (.slice A ss.length cp):=HRU.out.row.cell 52 _ (zbX HRU.out.clen 1)
 obtain⟨m,hm'⟩:∃ m,m=ss.length:=⟨_,rfl⟩
 rw[<-hm'] at u52 ht
 have htl:((m:Int)<(tt:Int)):=by omega
 clear hm' R5 R3 HRV
 go_wp2_with fail
 go_ret
 exact⟨rfl,HRU.out⟩
theorem zpH (r T gs n:Nat) (pl:Value) (C:List Value) (h av stk:Value) (ss:List Nat) (l nx:Nat) (an:List Value) (ls:List Ins) (ags:List Nat) (ci pi ai ni:Nat) (s:ByteArray) (k g t lv:Nat) (FF:FuncId) (hc:ci<28) (hrow:rw ci=[.string s,.int .i64 (k:Int),.int .i64 (g:Int),.int .i64 (t:Int),.int .i64 (lv:Int),.func (.func FF) #[] #[]]) (hg:l<g) (k0 w0 w:World) (H:Rn k0 w0 w r T gs n pl C h av stk ss l nx an ls ags):Calls Tryz.prog 70 #[.pointer (some ⟨r,0,none⟩),.agg (ic ci pi ai ni).toArray] w fun e w'=>e=.returned (.int .i64 102)/\Rn k0 w0 w' r T gs n pl C h av stk ss l nx an ls ags:=by
 obtain⟨A,cp,hst,_,_⟩:=Lw.form H.st
 subst hst
 have HH:Hid (Rn k0 w0 w r T gs n pl C h av (.slice A ss.length cp) ss l nx an ls ags):=H
 obtain⟨L,hL⟩:∃ L,L=ic ci pi ai ni:=⟨_,rfl⟩
 have HIC:Hid (L=ic ci pi ai ni):=hL
 have HI:Hid ((Tryz.prog.info? 97).map (·.size)=some L.length):=by show _=_;rw[hL];exact zcQ _ _ _ _
 rw[<-hL]
 have HT6:Hid (∀ j v,[Value.string s,.int .i64 (k:Int),.int .i64 (g:Int),.int .i64 (t:Int),.int .i64 (lv:Int),.func (.func FF) #[] #[]][j]?=some v->mtab[ci*6+j]?=some v):=fun j v hj=>by
  have hlt:j<6:=(List.getElem?_eq_some_iff.1 hj).1
  rw[ziC ci hc j hlt,hrow]
  exact hj
 clear H hL hrow
 go_enter Tryz.func70,Tryz.ntmps70
 go_upto_region 1 with (refine zaF 97 rfl (.tmp 1) rfl L rfl ?_;intro X q1 q2 q3;have R1:Hid (Row X w.heap.size L 97):=q1;have HR:Hid (Rn k0 w0 X r T gs n pl C h av (.slice A ss.length cp) ss l nx an ls ags):=HH.out.keep q2;clear q1 q2 q3;simp only[Act.put,jA,jB,jC])
 obtain⟨b3,hb3⟩:∃ b,b=w.heap.size:=⟨_,rfl⟩
 rw[<-hb3] at R1
 rw[<-hb3]
 clear hb3
 have r0:X.cell? ⟨r,0,none⟩=some (.slice (some ⟨T,0,none⟩) 28 28):=HR.out.row.cell 0 _ rfl
 have i0:X.cell? ⟨b3,0,none⟩=some (.int .i64 (ci:Int)):=R1.out.cell 0 _ (by rw[HIC.out];rfl)
 have t0:X.cell? ⟨T,ci*6,none⟩=some (.string s):=HR.out.tab.cell _ _ (HT6.out 0 _ rfl)
 have t1:X.cell? ⟨T,ci*6+1,none⟩=some (.int .i64 (k:Int)):=HR.out.tab.cell _ _ (HT6.out 1 _ rfl)
 have t2:X.cell? ⟨T,ci*6+2,none⟩=some (.int .i64 (g:Int)):=HR.out.tab.cell _ _ (HT6.out 2 _ rfl)
 have t3:X.cell? ⟨T,ci*6+3,none⟩=some (.int .i64 (t:Int)):=HR.out.tab.cell _ _ (HT6.out 3 _ rfl)
 have t4:X.cell? ⟨T,ci*6+4,none⟩=some (.int .i64 (lv:Int)):=HR.out.tab.cell _ _ (HT6.out 4 _ rfl)
 have t5:X.cell? ⟨T,ci*6+5,none⟩=some (.func (.func FF) #[] #[]):=HR.out.tab.cell _ _ (HT6.out 5 _ rfl)
 have r0':(X.alloc (Obj.cells #[Value.string ⟨#[]⟩,.int .i64 0,.int .i64 0,.int .i64 0,.int .i64 0,.nilFunc] 95)).cell? ⟨r,0,none⟩=some (.slice (some ⟨T,0,none⟩) 28 28):=(Row.alloc HR.out.row _).cell 0 _ rfl
 have i0':(X.alloc (Obj.cells #[Value.string ⟨#[]⟩,.int .i64 0,.int .i64 0,.int .i64 0,.int .i64 0,.nilFunc] 95)).cell? ⟨b3,0,none⟩=some (.int .i64 (ci:Int)):=(Row.alloc R1.out _).cell 0 _ (by rw[HIC.out];rfl)
 have t0':(X.alloc (Obj.cells #[Value.string ⟨#[]⟩,.int .i64 0,.int .i64 0,.int .i64 0,.int .i64 0,.nilFunc] 95)).cell? ⟨T,ci*6,none⟩=some (.string s):=(Row.alloc HR.out.tab _).cell _ _ (HT6.out 0 _ rfl)
 have t1':(X.alloc (Obj.cells #[Value.string ⟨#[]⟩,.int .i64 0,.int .i64 0,.int .i64 0,.int .i64 0,.nilFunc] 95)).cell? ⟨T,ci*6+1,none⟩=some (.int .i64 (k:Int)):=(Row.alloc HR.out.tab _).cell _ _ (HT6.out 1 _ rfl)
 have t2':(X.alloc (Obj.cells #[Value.string ⟨#[]⟩,.int .i64 0,.int .i64 0,.int .i64 0,.int .i64 0,.nilFunc] 95)).cell? ⟨T,ci*6+2,none⟩=some (.int .i64 (g:Int)):=(Row.alloc HR.out.tab _).cell _ _ (HT6.out 2 _ rfl)
 have t3':(X.alloc (Obj.cells #[Value.string ⟨#[]⟩,.int .i64 0,.int .i64 0,.int .i64 0,.int .i64 0,.nilFunc] 95)).cell? ⟨T,ci*6+3,none⟩=some (.int .i64 (t:Int)):=(Row.alloc HR.out.tab _).cell _ _ (HT6.out 3 _ rfl)
 have t4':(X.alloc (Obj.cells #[Value.string ⟨#[]⟩,.int .i64 0,.int .i64 0,.int .i64 0,.int .i64 0,.nilFunc] 95)).cell? ⟨T,ci*6+4,none⟩=some (.int .i64 (lv:Int)):=(Row.alloc HR.out.tab _).cell _ _ (HT6.out 4 _ rfl)
 have t5':(X.alloc (Obj.cells #[Value.string ⟨#[]⟩,.int .i64 0,.int .i64 0,.int .i64 0,.int .i64 0,.nilFunc] 95)).cell? ⟨T,ci*6+5,none⟩=some (.func (.func FF) #[] #[]):=(Row.alloc HR.out.tab _).cell _ _ (HT6.out 5 _ rfl)
 have hci:(ci:Int)<28:=by omega
 have RZ:Row (X.alloc (Obj.cells #[Value.string ⟨#[]⟩,.int .i64 0,.int .i64 0,.int .i64 0,.int .i64 0,.nilFunc] 95)) X.heap.size [Value.string ⟨#[]⟩,.int .i64 0,.int .i64 0,.int .i64 0,.int .i64 0,.nilFunc] 95:=Row.new' rfl rfl
 have RZZ:Hid (Row (X.alloc (Obj.cells #[Value.string ⟨#[]⟩,.int .i64 0,.int .i64 0,.int .i64 0,.int .i64 0,.nilFunc] 95)) X.heap.size [Value.string ⟨#[]⟩,.int .i64 0,.int .i64 0,.int .i64 0,.int .i64 0,.nilFunc] 95):=RZ
 have z0:=RZ.cell 0 _ rfl
 have zf0:=RZ.thaw 0
 have z1:=RZ.cell 1 _ rfl
 have zf1:=RZ.thaw 1
 have z2:=RZ.cell 2 _ rfl
 have zf2:=RZ.thaw 2
 have z3:=RZ.cell 3 _ rfl
 have zf3:=RZ.thaw 3
 have z4:=RZ.cell 4 _ rfl
 have zf4:=RZ.thaw 4
 have z5:=RZ.cell 5 _ rfl
 have zf5:=RZ.thaw 5
 clear RZ
 have hst:Sem.run Tryz.prog (store ⟨X.heap.size,5,none⟩ (Value.func (.func FF) #[] #[])) (X.alloc (Obj.cells #[Value.string s,.int .i64 (k:Int),.int .i64 (g:Int),.int .i64 (t:Int),.int .i64 (lv:Int),.nilFunc] 95)).drew=.ok () (X.alloc (Obj.cells #[Value.string s,.int .i64 (k:Int),.int .i64 (g:Int),.int .i64 (t:Int),.int .i64 (lv:Int),.func (.func FF) #[] #[]] 95)).drew:=by
  rw[run_store _ _ _ _ _ rfl]
  go_simp
 go_region
 obtain⟨Y,hY⟩:∃ Y,Y=(X.alloc (Obj.cells #[Value.string s,.int .i64 (k:Int),.int .i64 (g:Int),.int .i64 (t:Int),.int .i64 (lv:Int),.func (.func FF) #[] #[]] 95)).drew:=⟨_,rfl⟩
 rw[<-hY]
 have R5:Hid (Row Y X.heap.size [Value.string s,.int .i64 (k:Int),.int .i64 (g:Int),.int .i64 (t:Int),.int .i64 (lv:Int),.func (.func FF) #[] #[]] 95):=by rw[hY];exact Row.new' rfl rfl
 have BY:Below X.heap.size X Y:=by rw[hY];exact ((Below.refl X.heap.size X).alloc (Nat.le_refl _) _).drew
 have HRY:Hid (Rn k0 w0 Y r T gs n pl C h av (.slice A ss.length cp) ss l nx an ls ags):=HR.out.keep BY
 have R3:Hid (Row Y b3 L 97):=Row.below R1.out BY R1.out.lt
 obtain⟨b5,hb5⟩:∃ b,b=X.heap.size:=⟨_,rfl⟩
 rw[<-hb5] at R5
 rw[<-hb5]
 clear hY hb5 BY hst RZZ r0 i0 t0 t1 t2 t3 t4 t5 r0' i0' t0' t1' t2' t3' t4' t5' z0 z1 z2 z3 z4 z5 zf0 zf1 zf2 zf3 zf4 zf5 HR R1 HH hci HT6
 have y2:=R5.out.cell 2 _ rfl
 have y53:Y.cell? ⟨r,53,none⟩=some (.int .i64 (l:Int)):=HRY.out.row.cell 53 _ (zbX HRY.out.clen 2)
 have hgl:((l:Int)<(g:Int)):=by omega
 go_upto_region 2 with fail
 go_quiet (fail)
 go_wp2
 go_ret
 exact⟨rfl,HRY.out.drewN _⟩
def DoP (k0 w0 w':World) (r T gs n:Nat) (pl:Value) (C:List Value) (h av:Value) (l:Nat) (an:List Value) (ls:List Ins) (ags:List Nat) (res:Except Int (List Nat × Nat)) (v:Int):Prop:=
 match res with
 |.error E=>v=E/\∃ stk' ss' nx',Rn k0 w0 w' r T gs n pl C h av stk' ss' l nx' an ls ags
 |.ok (st',nx')=>v=0/\∃ stk',Rn k0 w0 w' r T gs n pl C h av stk' st'.reverse l nx' an ls ags
def StP (k0 w0 w':World) (r T gs n:Nat) (pl:Value) (C:List Value) (h av:Value) (l:Nat) (an:List Value) (ls:List Ins) (ags:List Nat) (g tt ll:Nat) (st:List Nat) (res:Except Int (List Nat × Nat)) (v:Int):Prop:=
 if l<g then v=102/\∃ stk' ss' l' nx',Rn k0 w0 w' r T gs n pl C h av stk' ss' l' nx' an ls ags
 else if st.length<tt\/64<st.length-tt+ll then v=103/\∃ stk' ss' l' nx',Rn k0 w0 w' r T gs n pl C h av stk' ss' l' nx' an ls ags
 else DoP k0 w0 w' r T gs n pl C h av (l-g) an ls ags res v
theorem zcF (r T gs n:Nat) (pl:Value) (C:List Value) (h av stk:Value) (st:List Nat) (l nx:Nat) (an:List Value) (ls:List Ins) (ags:List Nat) (ci pi ai ni:Nat) (s:ByteArray) (k g t lv:Nat) (FF:FuncId) (hc:ci<28) (hrow:rw ci=[.string s,.int .i64 (k:Int),.int .i64 (g:Int),.int .i64 (t:Int),.int .i64 (lv:Int),.func (.func FF) #[] #[]]) (tt ll:Nat) (hnd:∀ W,Calls Tryz.prog 91 #[.agg #[.string s,.int .i64 (k:Int),.int .i64 (g:Int),.int .i64 (t:Int),.int .i64 (lv:Int),.func (.func FF) #[] #[]],.agg (ic ci pi ai ni).toArray] W fun e w'=>e=.returned (.tuple #[.int .i64 (tt:Int),.int .i64 (ll:Int)])/\Below W.heap.size W w') (hl:l<=10000) (hlm:ll<=64) (hsl:st.length<=64) (hnx:nx<=1024) (k0 w0 w:World) (H:Rn k0 w0 w r T gs n pl C h av stk st.reverse l nx an ls ags) (res:Except Int (List Nat × Nat)) (hcf:∀ args W,(callFunc FF args).run Tryz.prog W=.ok (.enter FF args) W) (hdo:g<=l->tt<=st.length->st.length-tt+ll<=64->∀ W,Rn k0 w0 W r T gs n pl C h av stk st.reverse (l-g) (nx+1) an ls ags->Calls Tryz.prog FF #[.pointer (some ⟨r,0,none⟩),.agg (ic ci pi ai ni).toArray] W fun e w'=>∃ v,e=.returned (.int .i64 v)/\DoP k0 w0 w' r T gs n pl C h av (l-g) an ls ags res v):Calls Tryz.prog 70 #[.pointer (some ⟨r,0,none⟩),.agg (ic ci pi ai ni).toArray] w fun e w'=>∃ v,e=.returned (.int .i64 v)/\StP k0 w0 w' r T gs n pl C h av l an ls ags g tt ll st res v:=by
 have hrl:st.reverse.length=st.length:=List.length_reverse
 by_cases hg:l<g
 ·refine Calls.mono (zpH r T gs n pl C h av stk st.reverse l nx an ls ags ci pi ai ni s k g t lv FF hc hrow hg k0 w0 w H) ?_
  rintro e w' ⟨rfl,q⟩
  refine⟨102,rfl,?_⟩
  unfold StP
  rw[if_pos hg]
  exact⟨rfl,_,_,_,_,q⟩
 by_cases ht:st.length<tt
 ·refine Calls.mono (zpG r T gs n pl C h av stk st.reverse l nx an ls ags ci pi ai ni s k g t lv FF hc hrow tt ll hnd (by omega) hl (by omega) k0 w0 w H) ?_
  rintro e w' ⟨rfl,q⟩
  refine⟨103,rfl,?_⟩
  unfold StP
  rw[if_neg hg,if_pos (.inl ht)]
  exact⟨rfl,_,_,_,_,q⟩
 by_cases hm:64<st.length-tt+ll
 ·refine Calls.mono (zlX r T gs n pl C h av stk st.reverse l nx an ls ags ci pi ai ni s k g t lv FF hc hrow tt ll hnd (by omega) hl (by omega) (by omega) hlm (by omega) k0 w0 w H) ?_
  rintro e w' ⟨rfl,q⟩
  refine⟨103,rfl,?_⟩
  unfold StP
  rw[if_neg hg,if_pos (.inr hm)]
  exact⟨rfl,_,_,_,_,q⟩
 refine zpI r T gs n pl C h av stk st.reverse l nx an ls ags ci pi ai ni s k g t lv FF hc hrow tt ll hnd (by omega) hl (by omega) (by omega) hlm hnx k0 w0 w H (fun v w'=>StP k0 w0 w' r T gs n pl C h av l an ls ags g tt ll st res v) hcf ?_
 intro W hW
 refine Calls.mono (hdo (by omega) (by omega) (by omega) W hW) ?_
 rintro e w' ⟨v,rfl,q⟩
 refine⟨v,rfl,?_⟩
 unfold StP
 rw[if_neg hg,if_neg (by omega)]
 exact q
theorem ic_rng {W:World} {b:Nat} {t:TypeId} {c p a n:Nat} (R:Row W b (ic c p a n) t):W.rangeAt b 2 (wq a):=fun j v hj=>R.cell (2+j) v (by
 have hlt:j<4:=by have:=(List.getElem?_eq_some_iff.1 hj).1;rwa [zaV] at this
 rw[show 2+j=j+1+1 by omega]
 unfold ic
 rw[List.getElem?_cons_succ,List.getElem?_cons_succ,List.getElem?_append_left (by rw[zaV];omega)]
 exact hj)
theorem ztW {W:World} {r T:Nat} {pl ps:Value} {C:List Value} {h stk:Value} {l nx:Nat} {an:List Value} {t:TypeId} (R:Row W r (rc T pl ps C h stk l nx an) t) (hC:C.length=48) (o:Nat) (xs:List Value) (hx:∀ j v,xs[j]?=some v->C[o+j]?=some v):W.rangeAt r (o+3) xs:=fun j v hj=>by
 have h1:=hx j v hj
 have hlt:o+j<48:=by have:=(List.getElem?_eq_some_iff.1 h1).1;omega
 have:=R.cell (o+j+3) v ((zgZ hC (o+j) hlt).trans h1)
 rwa [show o+3+j=o+j+3 by omega]
theorem do_push (r T gs n:Nat) (pl:Value) (C:List Value) (h av stk:Value) (ss:List Nat) (l nx:Nat) (an:List Value) (ls:List Ins) (ags:List Nat) (I:List Value) (ci pi ai ni:Nat) (hI:I=ic ci pi ai ni) (k0 w0 w:World) (H:Rn k0 w0 w r T gs n pl C h av stk (ss) l nx an ls ags) (hss:ss.length<=900):Calls Tryz.prog 42 #[.pointer (some ⟨r,0,none⟩),.agg I.toArray] w fun e w'=>e=.returned (.int .i64 0)/\∃ stk',Rn k0 w0 w' r T gs n pl C h av stk' (ss++[ai]) l nx an ls ags:=by
 obtain⟨L,hL⟩:∃ L,L=wq ai:=⟨_,rfl⟩
 have HI:Hid ((Tryz.prog.info? 27).map (·.size)=some L.length):=by show _=_;rw[hL];exact zaU _
 have HLV:Hid (∀ W,Rn k0 w0 W r T gs n pl C h av stk (ss) l nx an ls ags->Calls Tryz.prog 72 #[.pointer (some ⟨r,0,none⟩),.agg L.toArray] W fun e w'=>e=.returned (.int .i64 0)/\∃ stk',Rn k0 w0 w' r T gs n pl C h av stk' (ss++[ai]) l nx an ls ags):=fun W hW=>by rw[hL];exact zcD r T gs n pl C h av stk ss l nx an ls ags (ai) k0 w0 W hW (by omega)
 have HIC:Hid (I=ic ci pi ai ni):=hI
 have HL:Hid (L=wq ai):=hL
 have HH:Hid (Rn k0 w0 w r T gs n pl C h av stk (ss) l nx an ls ags):=H
 clear H hss hL hI
 go_enter Tryz.func42,Tryz.ntmps42
 go_upto_region 1 with (refine zaF 97 rfl (.tmp 1) rfl I rfl ?_;intro X1 q1 q2 q3;have R1:Hid (Row X1 w.heap.size I 97):=q1;have HR:Hid (Rn k0 w0 X1 r T gs n pl C h av stk (ss) l nx an ls ags):=HH.out.keep q2;clear q1 q2 q3;simp only[Act.put,jA,jB,jC])
 have RG:Hid (X1.rangeAt w.heap.size 2 L):=by rw[HL.out];exact ic_rng (by rw[<-HIC.out];exact R1.out)
 go_wp2_with (first
  |(refine zaG rfl 27 (.tmp 6) rfl w.heap.size 2 rfl L _ RG.out Tryz.underlying27 rfl HI.out ?_;simp only[Act.put,jA,jB,jC])
  |(go_at_call 72;refine Calls.mono (HLV.out X1 HR.out) ?_;rintro e X9 ⟨rfl,stk',q⟩;have HQ:Hid (Rn k0 w0 X9 r T gs n pl C h av stk' (ss++[ai]) l nx an ls ags):=q;clear q))
 go_ret
 exact⟨rfl,_,HQ.out⟩
theorem zsG (r T gs n:Nat) (pl:Value) (C:List Value) (h av stk:Value) (ss:List Nat) (l nx:Nat) (an:List Value) (ls:List Ins) (ags:List Nat) (I:List Value) (x:Nat) (hC:∀ j v,(wq x)[j]?=some v->C[41+j]?=some v) (k0 w0 w:World) (H:Rn k0 w0 w r T gs n pl C h av stk (ss) l nx an ls ags) (hss:ss.length<=900):Calls Tryz.prog 61 #[.pointer (some ⟨r,0,none⟩),.agg I.toArray] w fun e w'=>e=.returned (.int .i64 0)/\∃ stk',Rn k0 w0 w' r T gs n pl C h av stk' (ss++[x]) l nx an ls ags:=by
 obtain⟨L,hL⟩:∃ L,L=wq x:=⟨_,rfl⟩
 have HI:Hid ((Tryz.prog.info? 27).map (·.size)=some L.length):=by show _=_;rw[hL];exact zaU _
 have HLV:Hid (∀ W,Rn k0 w0 W r T gs n pl C h av stk (ss) l nx an ls ags->Calls Tryz.prog 72 #[.pointer (some ⟨r,0,none⟩),.agg L.toArray] W fun e w'=>e=.returned (.int .i64 0)/\∃ stk',Rn k0 w0 w' r T gs n pl C h av stk' (ss++[x]) l nx an ls ags):=fun W hW=>by rw[hL];exact zcD r T gs n pl C h av stk ss l nx an ls ags (x) k0 w0 W hW (by omega)
 have HC:Hid (∀ j v,L[j]?=some v->C[41+j]?=some v):=by rw[hL];exact hC
 have HH:Hid (Rn k0 w0 w r T gs n pl C h av stk (ss) l nx an ls ags):=H
 clear H hss hL hC
 go_enter Tryz.func61,Tryz.ntmps61
 go_upto_region 1 with (refine zaF 97 rfl (.tmp 1) rfl I rfl ?_;intro X1 q1 q2 q3;have R1:Hid (Row X1 w.heap.size I 97):=q1;have HR:Hid (Rn k0 w0 X1 r T gs n pl C h av stk (ss) l nx an ls ags):=HH.out.keep q2;clear q1 q2 q3;simp only[Act.put,jA,jB,jC])
 have RG:Hid (X1.rangeAt r 44 L):=ztW HR.out.row HR.out.clen 41 L HC.out
 go_wp2_with (first
  |(refine zaG rfl 27 (.tmp 9) rfl r 44 rfl L _ RG.out Tryz.underlying27 rfl HI.out ?_;simp only[Act.put,jA,jB,jC])
  |(go_at_call 72;refine Calls.mono (HLV.out X1 HR.out) ?_;rintro e X9 ⟨rfl,stk',q⟩;have HQ:Hid (Rn k0 w0 X9 r T gs n pl C h av stk' (ss++[x]) l nx an ls ags):=q;clear q))
 go_ret
 exact⟨rfl,_,HQ.out⟩
theorem do_self (r T gs n:Nat) (pl:Value) (C:List Value) (h av stk:Value) (ss:List Nat) (l nx:Nat) (an:List Value) (ls:List Ins) (ags:List Nat) (I:List Value) (d:List (BitVec 8)) (hd:d.length=20) (hC:∀ j v,(vB d)[j]?=some v->C[0+j]?=some v) (k0 w0 w:World) (H:Rn k0 w0 w r T gs n pl C h av stk (ss) l nx an ls ags) (hss:ss.length<=900):Calls Tryz.prog 59 #[.pointer (some ⟨r,0,none⟩),.agg I.toArray] w fun e w'=>e=.returned (.int .i64 0)/\∃ stk',Rn k0 w0 w' r T gs n pl C h av stk' (ss++[nb d]) l nx an ls ags:=by
 obtain⟨L,hL⟩:∃ L,L=wq (nb d):=⟨_,rfl⟩
 have HLV:Hid (∀ W,Rn k0 w0 W r T gs n pl C h av stk (ss) l nx an ls ags->Calls Tryz.prog 72 #[.pointer (some ⟨r,0,none⟩),.agg L.toArray] W fun e w'=>e=.returned (.int .i64 0)/\∃ stk',Rn k0 w0 w' r T gs n pl C h av stk' (ss++[nb d]) l nx an ls ags):=fun W hW=>by rw[hL];exact zcD r T gs n pl C h av stk ss l nx an ls ags (nb d) k0 w0 W hW (by omega)
 have HNO:Hid (∀ W,W.rangeAt r 3 (vB d)->Calls Tryz.prog 84 #[.slice (some ⟨r,3,none⟩) 20 20] W fun e w'=>e=.returned (.agg L.toArray)/\Below W.heap.size W w'):=fun W hW=>by rw[hL];exact zfF r 3 20 20 d hd (by decide) (by decide) W hW
 have HC:Hid (∀ j v,(vB d)[j]?=some v->C[0+j]?=some v):=hC
 have HH:Hid (Rn k0 w0 w r T gs n pl C h av stk (ss) l nx an ls ags):=H
 clear H hss hL hC hd
 go_enter Tryz.func59,Tryz.ntmps59
 go_upto_region 1 with (refine zaF 97 rfl (.tmp 1) rfl I rfl ?_;intro X1 q1 q2 q3;have R1:Hid (Row X1 w.heap.size I 97):=q1;have HR:Hid (Rn k0 w0 X1 r T gs n pl C h av stk (ss) l nx an ls ags):=HH.out.keep q2;clear q1 q2 q3;simp only[Act.put,jA,jB,jC])
 have RG:Hid (X1.rangeAt r 3 (vB d)):=ztW HR.out.row HR.out.clen 0 (vB d) HC.out
 go_wp2_with (first
  |(refine zcZ rfl 24 (.tmp 9) rfl _ 20 r 3 rfl Tryz.underlying24 (by kernel_rfl) ?_;simp only[Act.put,jA,jB,jC])
  |(go_at_call 84;refine Calls.mono (HNO.out X1 RG.out) ?_;rintro e X2 ⟨rfl,q⟩;have HR2:Hid (Rn k0 w0 X2 r T gs n pl C h av stk (ss) l nx an ls ags):=HR.out.keep q;clear q)
  |(go_at_call 72;refine Calls.mono (HLV.out X2 HR2.out) ?_;rintro e X9 ⟨rfl,stk',q⟩;have HQ:Hid (Rn k0 w0 X9 r T gs n pl C h av stk' (ss++[nb d]) l nx an ls ags):=q;clear q))
 go_ret
 exact⟨rfl,_,HQ.out⟩
theorem zsH (r T gs n:Nat) (pl:Value) (C:List Value) (h av stk:Value) (ss:List Nat) (l nx:Nat) (an:List Value) (ls:List Ins) (ags:List Nat) (I:List Value) (d:List (BitVec 8)) (hd:d.length=20) (hC:∀ j v,(vB d)[j]?=some v->C[20+j]?=some v) (k0 w0 w:World) (H:Rn k0 w0 w r T gs n pl C h av stk (ss) l nx an ls ags) (hss:ss.length<=900):Calls Tryz.prog 58 #[.pointer (some ⟨r,0,none⟩),.agg I.toArray] w fun e w'=>e=.returned (.int .i64 0)/\∃ stk',Rn k0 w0 w' r T gs n pl C h av stk' (ss++[nb d]) l nx an ls ags:=by
 obtain⟨L,hL⟩:∃ L,L=wq (nb d):=⟨_,rfl⟩
 have HLV:Hid (∀ W,Rn k0 w0 W r T gs n pl C h av stk (ss) l nx an ls ags->Calls Tryz.prog 72 #[.pointer (some ⟨r,0,none⟩),.agg L.toArray] W fun e w'=>e=.returned (.int .i64 0)/\∃ stk',Rn k0 w0 w' r T gs n pl C h av stk' (ss++[nb d]) l nx an ls ags):=fun W hW=>by rw[hL];exact zcD r T gs n pl C h av stk ss l nx an ls ags (nb d) k0 w0 W hW (by omega)
 have HNO:Hid (∀ W,W.rangeAt r 23 (vB d)->Calls Tryz.prog 84 #[.slice (some ⟨r,23,none⟩) 20 20] W fun e w'=>e=.returned (.agg L.toArray)/\Below W.heap.size W w'):=fun W hW=>by rw[hL];exact zfF r 23 20 20 d hd (by decide) (by decide) W hW
 have HC:Hid (∀ j v,(vB d)[j]?=some v->C[20+j]?=some v):=hC
 have HH:Hid (Rn k0 w0 w r T gs n pl C h av stk (ss) l nx an ls ags):=H
 clear H hss hL hC hd
 go_enter Tryz.func58,Tryz.ntmps58
 go_upto_region 1 with (refine zaF 97 rfl (.tmp 1) rfl I rfl ?_;intro X1 q1 q2 q3;have R1:Hid (Row X1 w.heap.size I 97):=q1;have HR:Hid (Rn k0 w0 X1 r T gs n pl C h av stk (ss) l nx an ls ags):=HH.out.keep q2;clear q1 q2 q3;simp only[Act.put,jA,jB,jC])
 have RG:Hid (X1.rangeAt r 23 (vB d)):=ztW HR.out.row HR.out.clen 20 (vB d) HC.out
 go_wp2_with (first
  |(refine zcZ rfl 24 (.tmp 9) rfl _ 20 r 23 rfl Tryz.underlying24 (by kernel_rfl) ?_;simp only[Act.put,jA,jB,jC])
  |(go_at_call 84;refine Calls.mono (HNO.out X1 RG.out) ?_;rintro e X2 ⟨rfl,q⟩;have HR2:Hid (Rn k0 w0 X2 r T gs n pl C h av stk (ss) l nx an ls ags):=HR.out.keep q;clear q)
  |(go_at_call 72;refine Calls.mono (HLV.out X2 HR2.out) ?_;rintro e X9 ⟨rfl,stk',q⟩;have HQ:Hid (Rn k0 w0 X9 r T gs n pl C h av stk' (ss++[nb d]) l nx an ls ags):=q;clear q))
 go_ret
 exact⟨rfl,_,HQ.out⟩
theorem zoM (r T gs n:Nat) (pl:Value) (C:List Value) (h av stk:Value) (ss:List Nat) (l nx:Nat) (an:List Value) (ls:List Ins) (ags:List Nat) (pc m:Nat) (hp:pc<n) (hm:stf ls pc=m+1) (hml:m<=100000) (k0 w0 w:World) (H:Rn k0 w0 w r T gs n pl C h av stk (ss) l nx an ls ags):Calls Tryz.prog 82 #[.pointer (some ⟨r,0,none⟩),.int .i64 (pc:Int)] w fun e w'=>e=.returned (.int .i64 0)/\Rn k0 w0 w' r T gs n pl C h av stk (ss) l m an ls ags:=by
 have HH:Hid (Rn k0 w0 w r T gs n pl C h av stk ss l nx an ls ags):=H
 have c2:w.cell? ⟨r,2,none⟩=some (.slice (some ⟨gs,0,none⟩) n n):=H.row.cell 2 _ rfl
 have c3:w.cell? ⟨gs,pc,none⟩=some (.int .i64 ((m+1:Nat):Int)):=H.sta.cell pc _ (by
  unfold vI sts
  rw[List.map_map,List.getElem?_map,List.getElem?_range hp]
  simp [hm])
 obtain⟨m1,hm1⟩:∃ m1,m1=m+1:=⟨_,rfl⟩
 rw[<-hm1] at c3
 have e1:(m1:Int)-1=(m:Int):=by omega
 have HL54:Hid (54<(rc T pl (.slice (some ⟨gs,0,none⟩) n n) C h stk l nx an).length):=by show _<_;rw[ziE H.clen H.alen];decide
 have hm1l:m1<=100001:=by omega
 clear H hm hm1
 go_enter Tryz.func82,Tryz.ntmps82
 go_upto_region 2 with (refine zbI rfl 3 (.tmp 16) (.tmp 14) rfl r 54 (.int .i64 (m:Int)) (rc T pl (.slice (some ⟨gs,0,none⟩) n n) C h stk l nx an) 79 rfl rfl rfl HH.out.row HL54.out zfC rfl ?_;intro Z2 (RZ2:Hid (Row Z2 r ((rc T pl (.slice (some ⟨gs,0,none⟩) n n) C h stk l nx an).set 54 (.int .i64 (m:Int))) 79)) (GZ:Hid (Gro (·=r) w Z2)) q3;clear q3;simp only[Act.put])
 clear c2 c3
 go_wp2_with fail
 go_ret
 refine⟨rfl,HH.out.over GZ.out HH.out.alen ?_⟩
 have q:=RZ2.out
 rw[zkC HH.out.clen] at q
 exact q
theorem do_jump (r T gs n:Nat) (pl:Value) (C:List Value) (h av stk:Value) (ss:List Nat) (l nx:Nat) (an:List Value) (ls:List Ins) (ags:List Nat) (I:List Value) (ci pi ai ni m:Nat) (hI:I=ic ci pi ai ni) (hp:ni<n) (hm:stf ls ni=m+1) (hml:m<=100000) (k0 w0 w:World) (H:Rn k0 w0 w r T gs n pl C h av stk (ss) l nx an ls ags):Calls Tryz.prog 54 #[.pointer (some ⟨r,0,none⟩),.agg I.toArray] w fun e w'=>e=.returned (.int .i64 0)/\∃ stk',Rn k0 w0 w' r T gs n pl C h av stk' (ss) l m an ls ags:=by
 have HGT:Hid (∀ stk' W,Rn k0 w0 W r T gs n pl C h av stk' (ss) l nx an ls ags->Calls Tryz.prog 82 #[.pointer (some ⟨r,0,none⟩),.int .i64 (ni:Int)] W fun e w'=>e=.returned (.int .i64 0)/\Rn k0 w0 w' r T gs n pl C h av stk' (ss) l m an ls ags):=fun stk' W hW=>zoM r T gs n pl C h av stk' ss l nx an ls ags ni m hp hm hml k0 w0 W hW
 have HIC:Hid (I=ic ci pi ai ni):=hI
 have HH:Hid (Rn k0 w0 w r T gs n pl C h av stk (ss) l nx an ls ags):=H
 clear H hI hp hm hml
 go_enter Tryz.func54,Tryz.ntmps54
 go_upto_region 1 with (refine zaF 97 rfl (.tmp 1) rfl I rfl ?_;intro X1 q1 q2 q3;have R1:Hid (Row X1 w.heap.size I 97):=q1;have HR:Hid (Rn k0 w0 X1 r T gs n pl C h av stk (ss) l nx an ls ags):=HH.out.keep q2;clear q1 q2 q3;simp only[Act.put,jA,jB,jC])
 have c6:X1.cell? ⟨w.heap.size,6,none⟩=some (.int .i64 (ni:Int)):=R1.out.cell 6 _ (by rw[HIC.out];exact zsZ _ _ _ _)
 go_wp2_with (go_at_call 82;refine Calls.mono (HGT.out stk X1 HR.out) ?_;rintro e X9 ⟨rfl,q⟩;have HQ:Hid (Rn k0 w0 X9 r T gs n pl C h av stk (ss) l m an ls ags):=q;clear q)
 go_ret
 exact⟨rfl,_,HQ.out⟩
theorem zxM (r T gs n:Nat) (pl:Value) (C:List Value) (h av stk:Value) (ss:List Nat) (l nx:Nat) (an:List Value) (ls:List Ins) (ags:List Nat) (I:List Value) (x:Nat) (hx:x<2 ^ 256) (hx0:x=0) (k0 w0 w:World) (H:Rn k0 w0 w r T gs n pl C h av stk (ss++[x]) l nx an ls ags) (hss:ss.length<=900):Calls Tryz.prog 55 #[.pointer (some ⟨r,0,none⟩),.agg I.toArray] w fun e w'=>e=.returned (.int .i64 0)/\∃ stk',Rn k0 w0 w' r T gs n pl C h av stk' (ss) l nx an ls ags:=by
 obtain⟨L,hL⟩:∃ L,L=wq x:=⟨_,rfl⟩
 have HTK:Hid (∀ W,Rn k0 w0 W r T gs n pl C h av stk (ss++[x]) l nx an ls ags->Calls Tryz.prog 71 #[.pointer (some ⟨r,0,none⟩)] W fun e w'=>e=.returned (.agg L.toArray)/\(∀ {b:Nat} {cs:List Value} {t:TypeId},Row W b cs t->b≠r->Row w' b cs t)/\∃ stk',Rn k0 w0 w' r T gs n pl C h av stk' ss l nx an ls ags):=fun W hW=>by
  rw[hL]
  refine Calls.mono (zdB r T gs n pl C h av stk ss l nx an ls ags x k0 w0 W hW (by omega)) ?_
  rintro e w' ⟨q1,_,q2,stk2,_,q⟩
  exact⟨q1,q2,stk2,q⟩
 have HOP:Hid (∀ W,Calls Tryz.prog 81 #[.agg L.toArray] W fun e w'=>e=.returned (.bool true)/\Below W.heap.size W w'):=fun W=>by rw[hL,show true=decide (x=0) by simp [hx0]];exact zeK x hx W
 have HH:Hid (Rn k0 w0 w r T gs n pl C h av stk (ss++[x]) l nx an ls ags):=H
 clear H hss hL hx hx0
 go_enter Tryz.func55,Tryz.ntmps55
 go_wp2_with (first
  |(refine zaF 97 rfl (.tmp 1) rfl I rfl ?_;intro X1 q1 q2 q3;have R1:Hid (Row X1 w.heap.size I 97):=q1;have HR:Hid (Rn k0 w0 X1 r T gs n pl C h av stk (ss++[x]) l nx an ls ags):=HH.out.keep q2;clear q1 q2 q3;simp only[Act.put,jA,jB,jC])
  |(go_at_call 71;refine Calls.mono (HTK.out X1 HR.out) ?_;rintro e X2 ⟨rfl,qr,stk2,q⟩;have HR2:Hid (Rn k0 w0 X2 r T gs n pl C h av stk2 ss l nx an ls ags):=q;have R2:Hid (Row X2 w.heap.size I 97):=qr R1.out (zaN R1.out HR.out.row (by decide));clear q qr)
  |(go_at_call 81;refine Calls.mono (HOP.out X2) ?_;rintro e X3 ⟨rfl,q⟩;have HR3:Hid (Rn k0 w0 X3 r T gs n pl C h av stk2 ss l nx an ls ags):=HR2.out.keep q;have R3:Hid (Row X3 w.heap.size I 97):=Row.below R2.out q R2.out.lt;clear q))
 go_ret
 exact⟨rfl,_,HR3.out⟩
theorem zxN (r T gs n:Nat) (pl:Value) (C:List Value) (h av stk:Value) (ss:List Nat) (l nx:Nat) (an:List Value) (ls:List Ins) (ags:List Nat) (I:List Value) (x:Nat) (hx:x<2 ^ 256) (hx0:¬ x=0) (ci pi ai ni m:Nat) (hI:I=ic ci pi ai ni) (hp:ni<n) (hm:stf ls ni=m+1) (hml:m<=100000) (k0 w0 w:World) (H:Rn k0 w0 w r T gs n pl C h av stk (ss++[x]) l nx an ls ags) (hss:ss.length<=900):Calls Tryz.prog 55 #[.pointer (some ⟨r,0,none⟩),.agg I.toArray] w fun e w'=>e=.returned (.int .i64 0)/\∃ stk',Rn k0 w0 w' r T gs n pl C h av stk' (ss) l m an ls ags:=by
 obtain⟨L,hL⟩:∃ L,L=wq x:=⟨_,rfl⟩
 have HTK:Hid (∀ W,Rn k0 w0 W r T gs n pl C h av stk (ss++[x]) l nx an ls ags->Calls Tryz.prog 71 #[.pointer (some ⟨r,0,none⟩)] W fun e w'=>e=.returned (.agg L.toArray)/\(∀ {b:Nat} {cs:List Value} {t:TypeId},Row W b cs t->b≠r->Row w' b cs t)/\∃ stk',Rn k0 w0 w' r T gs n pl C h av stk' ss l nx an ls ags):=fun W hW=>by
  rw[hL]
  refine Calls.mono (zdB r T gs n pl C h av stk ss l nx an ls ags x k0 w0 W hW (by omega)) ?_
  rintro e w' ⟨q1,_,q2,stk2,_,q⟩
  exact⟨q1,q2,stk2,q⟩
 have HOP:Hid (∀ W,Calls Tryz.prog 81 #[.agg L.toArray] W fun e w'=>e=.returned (.bool false)/\Below W.heap.size W w'):=fun W=>by rw[hL,show false=decide (x=0) by simp [hx0]];exact zeK x hx W
 have HGT:Hid (∀ stk' W,Rn k0 w0 W r T gs n pl C h av stk' (ss) l nx an ls ags->Calls Tryz.prog 82 #[.pointer (some ⟨r,0,none⟩),.int .i64 (ni:Int)] W fun e w'=>e=.returned (.int .i64 0)/\Rn k0 w0 w' r T gs n pl C h av stk' (ss) l m an ls ags):=fun stk' W hW=>zoM r T gs n pl C h av stk' ss l nx an ls ags ni m hp hm hml k0 w0 W hW
 have HIC:Hid (I=ic ci pi ai ni):=hI
 have HH:Hid (Rn k0 w0 w r T gs n pl C h av stk (ss++[x]) l nx an ls ags):=H
 clear H hss hL hx hx0 hI hp hm hml
 go_enter Tryz.func55,Tryz.ntmps55
 go_upto_region 3 with (first
  |(refine zaF 97 rfl (.tmp 1) rfl I rfl ?_;intro X1 q1 q2 q3;have R1:Hid (Row X1 w.heap.size I 97):=q1;have HR:Hid (Rn k0 w0 X1 r T gs n pl C h av stk (ss++[x]) l nx an ls ags):=HH.out.keep q2;clear q1 q2 q3;simp only[Act.put,jA,jB,jC])
  |(go_at_call 71;refine Calls.mono (HTK.out X1 HR.out) ?_;rintro e X2 ⟨rfl,qr,stk2,q⟩;have HR2:Hid (Rn k0 w0 X2 r T gs n pl C h av stk2 ss l nx an ls ags):=q;have R2:Hid (Row X2 w.heap.size I 97):=qr R1.out (zaN R1.out HR.out.row (by decide));clear q qr)
  |(go_at_call 81;refine Calls.mono (HOP.out X2) ?_;rintro e X3 ⟨rfl,q⟩;have HR3:Hid (Rn k0 w0 X3 r T gs n pl C h av stk2 ss l nx an ls ags):=HR2.out.keep q;have R3:Hid (Row X3 w.heap.size I 97):=Row.below R2.out q R2.out.lt;clear q))
 have c6:X3.cell? ⟨w.heap.size,6,none⟩=some (.int .i64 (ni:Int)):=R3.out.cell 6 _ (by rw[HIC.out];exact zsZ _ _ _ _)
 go_wp2_with (go_at_call 82;refine Calls.mono (HGT.out stk2 X3 HR3.out) ?_;rintro e X9 ⟨rfl,q⟩;have HQ:Hid (Rn k0 w0 X9 r T gs n pl C h av stk2 (ss) l m an ls ags):=q;clear q)
 go_ret
 exact⟨rfl,_,HQ.out⟩
theorem do_stop (r T gs n:Nat) (pl:Value) (C:List Value) (h av stk:Value) (ss:List Nat) (l nx:Nat) (an:List Value) (ls:List Ins) (ags:List Nat) (I:List Value) (k0 w0 w:World) (H:Rn k0 w0 w r T gs n pl C h av stk (ss) l nx an ls ags):Calls Tryz.prog 40 #[.pointer (some ⟨r,0,none⟩),.agg I.toArray] w fun e w'=>e=.returned (.int .i64 105)/\Rn k0 w0 w' r T gs n pl C h av stk (ss) l nx an ls ags:=by
 have HH:Hid (Rn k0 w0 w r T gs n pl C h av stk ss l nx an ls ags):=H
 clear H
 go_enter Tryz.func40,Tryz.ntmps40
 go_wp2_with (refine zaF 97 rfl (.tmp 1) rfl I rfl ?_;intro X1 q1 q2 q3;have R1:Hid (Row X1 w.heap.size I 97):=q1;have HR:Hid (Rn k0 w0 X1 r T gs n pl C h av stk (ss) l nx an ls ags):=HH.out.keep q2;clear q1 q2 q3;simp only[Act.put,jA,jB,jC])
 go_ret
 exact⟨rfl,HR.out⟩
theorem do_pop (r T gs n:Nat) (pl:Value) (C:List Value) (h av stk:Value) (ss:List Nat) (l nx:Nat) (an:List Value) (ls:List Ins) (ags:List Nat) (I:List Value) (x:Nat) (k0 w0 w:World) (H:Rn k0 w0 w r T gs n pl C h av stk (ss++[x]) l nx an ls ags) (hss:ss.length<=900):Calls Tryz.prog 43 #[.pointer (some ⟨r,0,none⟩),.agg I.toArray] w fun e w'=>e=.returned (.int .i64 0)/\∃ stk',Rn k0 w0 w' r T gs n pl C h av stk' (ss) l nx an ls ags:=by
 obtain⟨L,hL⟩:∃ L,L=wq x:=⟨_,rfl⟩
 have HTK:Hid (∀ W,Rn k0 w0 W r T gs n pl C h av stk (ss++[x]) l nx an ls ags->Calls Tryz.prog 71 #[.pointer (some ⟨r,0,none⟩)] W fun e w'=>e=.returned (.agg L.toArray)/\∃ stk',Rn k0 w0 w' r T gs n pl C h av stk' ss l nx an ls ags):=fun W hW=>by
  rw[hL]
  refine Calls.mono (zdB r T gs n pl C h av stk ss l nx an ls ags x k0 w0 W hW (by omega)) ?_
  rintro e w' ⟨q1,_,_,stk2,_,q⟩
  exact⟨q1,stk2,q⟩
 have HH:Hid (Rn k0 w0 w r T gs n pl C h av stk (ss++[x]) l nx an ls ags):=H
 clear H hss hL
 go_enter Tryz.func43,Tryz.ntmps43
 go_wp2_with (first
  |(refine zaF 97 rfl (.tmp 1) rfl I rfl ?_;intro X1 q1 q2 q3;have R1:Hid (Row X1 w.heap.size I 97):=q1;have HR:Hid (Rn k0 w0 X1 r T gs n pl C h av stk (ss++[x]) l nx an ls ags):=HH.out.keep q2;clear q1 q2 q3;simp only[Act.put,jA,jB,jC])
  |(go_at_call 71;refine Calls.mono (HTK.out X1 HR.out) ?_;rintro e X2 ⟨rfl,stk2,q⟩;have HR2:Hid (Rn k0 w0 X2 r T gs n pl C h av stk2 ss l nx an ls ags):=q;clear q))
 go_ret
 exact⟨rfl,_,HR2.out⟩
theorem do_not (r T gs n:Nat) (pl:Value) (C:List Value) (h av stk:Value) (ss:List Nat) (l nx:Nat) (an:List Value) (ls:List Ins) (ags:List Nat) (I:List Value) (x z:Nat) (hx:x<2 ^ 256) (hz:z=if decide (x=0)=true then 1 else 0) (k0 w0 w:World) (H:Rn k0 w0 w r T gs n pl C h av stk (ss++[x]) l nx an ls ags) (hss:ss.length<=900):Calls Tryz.prog 53 #[.pointer (some ⟨r,0,none⟩),.agg I.toArray] w fun e w'=>e=.returned (.int .i64 0)/\∃ stk',Rn k0 w0 w' r T gs n pl C h av stk' (ss++[z]) l nx an ls ags:=by
 obtain⟨L,hL⟩:∃ L,L=wq x:=⟨_,rfl⟩
 obtain⟨B,hB⟩:∃ B,B=decide (x=0):=⟨_,rfl⟩
 have HTK:Hid (∀ W,Rn k0 w0 W r T gs n pl C h av stk (ss++[x]) l nx an ls ags->Calls Tryz.prog 71 #[.pointer (some ⟨r,0,none⟩)] W fun e w'=>e=.returned (.agg L.toArray)/\∃ stk',Rn k0 w0 w' r T gs n pl C h av stk' ss l nx an ls ags):=fun W hW=>by
  rw[hL]
  refine Calls.mono (zdB r T gs n pl C h av stk ss l nx an ls ags x k0 w0 W hW (by omega)) ?_
  rintro e w' ⟨q1,_,_,stk2,_,q⟩
  exact⟨q1,stk2,q⟩
 have HOP:Hid (∀ W,Calls Tryz.prog 81 #[.agg L.toArray] W fun e w'=>e=.returned (.bool B)/\Below W.heap.size W w'):=fun W=>by rw[hL,hB];exact zeK x hx W
 have HW:Hid (∀ stk' W B',B'=B->Rn k0 w0 W r T gs n pl C h av stk' (ss) l nx an ls ags->Calls Tryz.prog 79 #[.pointer (some ⟨r,0,none⟩),.bool B'] W fun e w'=>e=.returned (.int .i64 0)/\∃ stk',Rn k0 w0 w' r T gs n pl C h av stk' (ss++[z]) l nx an ls ags):=fun stk' W B' hB' hW=>by rw[hz,hB',hB];exact ziO r T gs n pl C h av stk' ss l nx an ls ags _ k0 w0 W hW (by omega)
 have HH:Hid (Rn k0 w0 w r T gs n pl C h av stk (ss++[x]) l nx an ls ags):=H
 clear H hss hL hx hz hB
 go_enter Tryz.func53,Tryz.ntmps53
 go_wp2_with (first
  |(refine zaF 97 rfl (.tmp 1) rfl I rfl ?_;intro X1 q1 q2 q3;have R1:Hid (Row X1 w.heap.size I 97):=q1;have HR:Hid (Rn k0 w0 X1 r T gs n pl C h av stk (ss++[x]) l nx an ls ags):=HH.out.keep q2;clear q1 q2 q3;simp only[Act.put,jA,jB,jC])
  |(go_at_call 71;refine Calls.mono (HTK.out X1 HR.out) ?_;rintro e X2 ⟨rfl,stk2,q⟩;have HR2:Hid (Rn k0 w0 X2 r T gs n pl C h av stk2 ss l nx an ls ags):=q;clear q)
  |(go_at_call 81;refine Calls.mono (HOP.out X2) ?_;rintro e X3 ⟨rfl,q⟩;have HR3:Hid (Rn k0 w0 X3 r T gs n pl C h av stk2 ss l nx an ls ags):=HR2.out.keep q;clear q)
  |(go_at_call 79;refine Calls.mono (HW.out stk2 X3 _ rfl HR3.out) ?_;rintro e X9 ⟨rfl,stk',q⟩;have HQ:Hid (Rn k0 w0 X9 r T gs n pl C h av stk' (ss++[z]) l nx an ls ags):=q;clear q))
 go_ret
 exact⟨rfl,_,HQ.out⟩
theorem do_same (r T gs n:Nat) (pl:Value) (C:List Value) (h av stk:Value) (ss:List Nat) (l nx:Nat) (an:List Value) (ls:List Ins) (ags:List Nat) (I:List Value) (x y z:Nat) (hx:x<2 ^ 256) (hy:y<2 ^ 256) (hz:z=if decide (x=y)=true then 1 else 0) (k0 w0 w:World) (H:Rn k0 w0 w r T gs n pl C h av stk (ss++[x]++[y]) l nx an ls ags) (hss:ss.length<=900):Calls Tryz.prog 52 #[.pointer (some ⟨r,0,none⟩),.agg I.toArray] w fun e w'=>e=.returned (.int .i64 0)/\∃ stk',Rn k0 w0 w' r T gs n pl C h av stk' (ss++[z]) l nx an ls ags:=by
 obtain⟨LX,hLX⟩:∃ L,L=wq x:=⟨_,rfl⟩
 obtain⟨LY,hLY⟩:∃ L,L=wq y:=⟨_,rfl⟩
 obtain⟨B,hB⟩:∃ B,B=decide (x=y):=⟨_,rfl⟩
 have HTT:Hid (∀ W,Rn k0 w0 W r T gs n pl C h av stk (ss++[x]++[y]) l nx an ls ags->Calls Tryz.prog 75 #[.pointer (some ⟨r,0,none⟩)] W fun e w'=>e=.returned (.tuple #[.agg LX.toArray,.agg LY.toArray])/\∃ stk',Rn k0 w0 w' r T gs n pl C h av stk' ss l nx an ls ags):=fun W hW=>by
  rw[hLX,hLY]
  refine Calls.mono (zbF r T gs n pl C h av stk ss l nx an ls ags x y k0 w0 W hW (by omega)) ?_
  rintro e w' ⟨q1,q2⟩
  obtain⟨_,_,stk2,q⟩:=q2
  exact⟨q1,stk2,q⟩
 obtain⟨cm,hcm⟩:∃ cm,cm=zfN x y:=⟨_,rfl⟩
 have hcB:(cm==0)=B:=by
  rw[hB,hcm]
  unfold zfN
  by_cases he:x=y
  ·rw[if_pos he,decide_eq_true he];rfl
  ·rw[if_neg he,decide_eq_false he]
   split <;> rfl
 have HCB:Hid ((cm==0)=B/\decide (cm=0)=B):=⟨hcB,by rw[<-hcB];rfl⟩
 have HOP:Hid (∀ W,Calls Tryz.prog 80 #[.agg LX.toArray,.agg LY.toArray] W fun e w'=>e=.returned (.int .i64 cm)/\Below W.heap.size W w'):=fun W=>by
  rw[hLX,hLY,hcm]
  exact zjR x y hx hy W
 have HW:Hid (∀ stk' W B',B'=B->Rn k0 w0 W r T gs n pl C h av stk' (ss) l nx an ls ags->Calls Tryz.prog 79 #[.pointer (some ⟨r,0,none⟩),.bool B'] W fun e w'=>e=.returned (.int .i64 0)/\∃ stk',Rn k0 w0 w' r T gs n pl C h av stk' (ss++[z]) l nx an ls ags):=fun stk' W B' hB' hW=>by rw[hz,hB',hB];exact ziO r T gs n pl C h av stk' ss l nx an ls ags _ k0 w0 W hW (by omega)
 have HH:Hid (Rn k0 w0 w r T gs n pl C h av stk (ss++[x]++[y]) l nx an ls ags):=H
 clear H hss hLX hLY hx hy hz hB hcm hcB
 go_enter Tryz.func52,Tryz.ntmps52
 go_wp2_with (first
  |(refine zaF 97 rfl (.tmp 1) rfl I rfl ?_;intro X1 q1 q2 q3;have R1:Hid (Row X1 w.heap.size I 97):=q1;have HR:Hid (Rn k0 w0 X1 r T gs n pl C h av stk (ss++[x]++[y]) l nx an ls ags):=HH.out.keep q2;clear q1 q2 q3;simp only[Act.put,jA,jB,jC])
  |(go_at_call 75;refine Calls.mono (HTT.out X1 HR.out) ?_;rintro e X2 ⟨rfl,stk2,q⟩;have HR2:Hid (Rn k0 w0 X2 r T gs n pl C h av stk2 ss l nx an ls ags):=q;clear q)
  |(go_at_call 80;refine Calls.mono (HOP.out X2) ?_;rintro e X3 ⟨rfl,q⟩;have HR3:Hid (Rn k0 w0 X3 r T gs n pl C h av stk2 ss l nx an ls ags):=HR2.out.keep q;clear q)
  |(go_at_call 79;refine Calls.mono (HW.out stk2 X3 _ (by first|exact HCB.out.1|exact HCB.out.2) HR3.out) ?_;rintro e X9 ⟨rfl,stk',q⟩;have HQ:Hid (Rn k0 w0 X9 r T gs n pl C h av stk' (ss++[z]) l nx an ls ags):=q;clear q))
 go_ret
 exact⟨rfl,_,HQ.out⟩
theorem zxL (r T gs n:Nat) (pl:Value) (C:List Value) (h av stk:Value) (ss:List Nat) (l nx:Nat) (an:List Value) (ls:List Ins) (ags:List Nat) (I:List Value) (k:Nat) (hk:k<18446744073709551616) (hC:C[40]?=some (.int .i64 (k:Int))) (k0 w0 w:World) (H:Rn k0 w0 w r T gs n pl C h av stk (ss) l nx an ls ags) (hss:ss.length<=900):Calls Tryz.prog 60 #[.pointer (some ⟨r,0,none⟩),.agg I.toArray] w fun e w'=>e=.returned (.int .i64 0)/\∃ stk',Rn k0 w0 w' r T gs n pl C h av stk' (ss++[k]) l nx an ls ags:=by
 have HLC:Hid (∀ W,Rn k0 w0 W r T gs n pl C h av stk (ss) l nx an ls ags->Calls Tryz.prog 83 #[.pointer (some ⟨r,0,none⟩),.int .i64 (k:Int)] W fun e w'=>e=.returned (.int .i64 0)/\∃ stk',Rn k0 w0 w' r T gs n pl C h av stk' (ss++[k]) l nx an ls ags):=fun W hW=>zgE r T gs n pl C h av stk ss l nx an ls ags k hk k0 w0 W hW (by omega)
 have HH:Hid (Rn k0 w0 w r T gs n pl C h av stk (ss) l nx an ls ags):=H
 have HC:Hid (C[40]?=some (.int .i64 (k:Int))):=hC
 clear H hss hk hC
 go_enter Tryz.func60,Tryz.ntmps60
 go_upto_region 1 with (refine zaF 97 rfl (.tmp 1) rfl I rfl ?_;intro X1 q1 q2 q3;have R1:Hid (Row X1 w.heap.size I 97):=q1;have HR:Hid (Rn k0 w0 X1 r T gs n pl C h av stk (ss) l nx an ls ags):=HH.out.keep q2;clear q1 q2 q3;simp only[Act.put,jA,jB,jC])
 have c1:X1.cell? ⟨r,43,none⟩=some (.int .i64 (k:Int)):=HR.out.row.cell 43 _ ((zgZ HR.out.clen 40 (by decide)).trans HC.out)
 go_wp2_with (go_at_call 83;refine Calls.mono (HLC.out X1 HR.out) ?_;rintro e X9 ⟨rfl,stk',q⟩;have HQ:Hid (Rn k0 w0 X9 r T gs n pl C h av stk' (ss++[k]) l nx an ls ags):=q;clear q)
 go_ret
 exact⟨rfl,_,HQ.out⟩
theorem do_time (r T gs n:Nat) (pl:Value) (C:List Value) (h av stk:Value) (ss:List Nat) (l nx:Nat) (an:List Value) (ls:List Ins) (ags:List Nat) (I:List Value) (k:Nat) (hk:k<18446744073709551616) (hC:C[46]?=some (.int .i64 (k:Int))) (k0 w0 w:World) (H:Rn k0 w0 w r T gs n pl C h av stk (ss) l nx an ls ags) (hss:ss.length<=900):Calls Tryz.prog 62 #[.pointer (some ⟨r,0,none⟩),.agg I.toArray] w fun e w'=>e=.returned (.int .i64 0)/\∃ stk',Rn k0 w0 w' r T gs n pl C h av stk' (ss++[k]) l nx an ls ags:=by
 have HLC:Hid (∀ W,Rn k0 w0 W r T gs n pl C h av stk (ss) l nx an ls ags->Calls Tryz.prog 83 #[.pointer (some ⟨r,0,none⟩),.int .i64 (k:Int)] W fun e w'=>e=.returned (.int .i64 0)/\∃ stk',Rn k0 w0 w' r T gs n pl C h av stk' (ss++[k]) l nx an ls ags):=fun W hW=>zgE r T gs n pl C h av stk ss l nx an ls ags k hk k0 w0 W hW (by omega)
 have HH:Hid (Rn k0 w0 w r T gs n pl C h av stk (ss) l nx an ls ags):=H
 have HC:Hid (C[46]?=some (.int .i64 (k:Int))):=hC
 clear H hss hk hC
 go_enter Tryz.func62,Tryz.ntmps62
 go_upto_region 1 with (refine zaF 97 rfl (.tmp 1) rfl I rfl ?_;intro X1 q1 q2 q3;have R1:Hid (Row X1 w.heap.size I 97):=q1;have HR:Hid (Rn k0 w0 X1 r T gs n pl C h av stk (ss) l nx an ls ags):=HH.out.keep q2;clear q1 q2 q3;simp only[Act.put,jA,jB,jC])
 have c1:X1.cell? ⟨r,49,none⟩=some (.int .i64 (k:Int)):=HR.out.row.cell 49 _ ((zgZ HR.out.clen 46 (by decide)).trans HC.out)
 go_wp2_with (go_at_call 83;refine Calls.mono (HLC.out X1 HR.out) ?_;rintro e X9 ⟨rfl,stk',q⟩;have HQ:Hid (Rn k0 w0 X9 r T gs n pl C h av stk' (ss++[k]) l nx an ls ags):=q;clear q)
 go_ret
 exact⟨rfl,_,HQ.out⟩
theorem do_gas (r T gs n:Nat) (pl:Value) (C:List Value) (h av stk:Value) (ss:List Nat) (l nx:Nat) (an:List Value) (ls:List Ins) (ags:List Nat) (I:List Value) (k:Nat) (hk:k<18446744073709551616) (hC:k=l) (k0 w0 w:World) (H:Rn k0 w0 w r T gs n pl C h av stk (ss) l nx an ls ags) (hss:ss.length<=900):Calls Tryz.prog 63 #[.pointer (some ⟨r,0,none⟩),.agg I.toArray] w fun e w'=>e=.returned (.int .i64 0)/\∃ stk',Rn k0 w0 w' r T gs n pl C h av stk' (ss++[k]) l nx an ls ags:=by
 have HLC:Hid (∀ W,Rn k0 w0 W r T gs n pl C h av stk (ss) l nx an ls ags->Calls Tryz.prog 83 #[.pointer (some ⟨r,0,none⟩),.int .i64 (k:Int)] W fun e w'=>e=.returned (.int .i64 0)/\∃ stk',Rn k0 w0 w' r T gs n pl C h av stk' (ss++[k]) l nx an ls ags):=fun W hW=>zgE r T gs n pl C h av stk ss l nx an ls ags k hk k0 w0 W hW (by omega)
 have HH:Hid (Rn k0 w0 w r T gs n pl C h av stk (ss) l nx an ls ags):=H
 have HC:Hid (k=l):=hC
 clear H hss hk hC
 go_enter Tryz.func63,Tryz.ntmps63
 go_upto_region 1 with (refine zaF 97 rfl (.tmp 1) rfl I rfl ?_;intro X1 q1 q2 q3;have R1:Hid (Row X1 w.heap.size I 97):=q1;have HR:Hid (Rn k0 w0 X1 r T gs n pl C h av stk (ss) l nx an ls ags):=HH.out.keep q2;clear q1 q2 q3;simp only[Act.put,jA,jB,jC])
 have c1:X1.cell? ⟨r,53,none⟩=some (.int .i64 (k:Int)):=HR.out.row.cell 53 _ (by rw[HC.out];exact zbX HR.out.clen 2)
 go_wp2_with (go_at_call 83;refine Calls.mono (HLC.out X1 HR.out) ?_;rintro e X9 ⟨rfl,stk',q⟩;have HQ:Hid (Rn k0 w0 X9 r T gs n pl C h av stk' (ss++[k]) l nx an ls ags):=q;clear q)
 go_ret
 exact⟨rfl,_,HQ.out⟩
theorem do_args (r T gs n:Nat) (pl:Value) (C:List Value) (h av stk:Value) (ss:List Nat) (l nx:Nat) (an:List Value) (ls:List Ins) (ags:List Nat) (I:List Value) (k:Nat) (hk:k<18446744073709551616) (hC:k=ags.length) (k0 w0 w:World) (H:Rn k0 w0 w r T gs n pl C h av stk (ss) l nx an ls ags) (hss:ss.length<=900):Calls Tryz.prog 57 #[.pointer (some ⟨r,0,none⟩),.agg I.toArray] w fun e w'=>e=.returned (.int .i64 0)/\∃ stk',Rn k0 w0 w' r T gs n pl C h av stk' (ss++[k]) l nx an ls ags:=by
 have HLC:Hid (∀ W,Rn k0 w0 W r T gs n pl C h av stk (ss) l nx an ls ags->Calls Tryz.prog 83 #[.pointer (some ⟨r,0,none⟩),.int .i64 (k:Int)] W fun e w'=>e=.returned (.int .i64 0)/\∃ stk',Rn k0 w0 w' r T gs n pl C h av stk' (ss++[k]) l nx an ls ags):=fun W hW=>zgE r T gs n pl C h av stk ss l nx an ls ags k hk k0 w0 W hW (by omega)
 have HH:Hid (Rn k0 w0 w r T gs n pl C h av stk (ss) l nx an ls ags):=H
 obtain⟨A0,c0,hav,_,_⟩:=Lw.form H.arg
 have HAV:Hid (av=.slice A0 k c0):=by rw[hC];exact hav
 clear H hss hk hC hav
 go_enter Tryz.func57,Tryz.ntmps57
 go_upto_region 1 with (refine zaF 97 rfl (.tmp 1) rfl I rfl ?_;intro X1 q1 q2 q3;have R1:Hid (Row X1 w.heap.size I 97):=q1;have HR:Hid (Rn k0 w0 X1 r T gs n pl C h av stk (ss) l nx an ls ags):=HH.out.keep q2;clear q1 q2 q3;simp only[Act.put,jA,jB,jC])
 have c1:X1.cell? ⟨r,48,none⟩=some (.slice A0 k c0):=HR.out.row.cell 48 _ ((zgZ HR.out.clen 45 (by decide)).trans (HR.out.cargs.trans (congrArg some HAV.out)))
 go_wp2_with (go_at_call 83;refine Calls.mono (HLC.out X1 HR.out) ?_;rintro e X9 ⟨rfl,stk',q⟩;have HQ:Hid (Rn k0 w0 X9 r T gs n pl C h av stk' (ss++[k]) l nx an ls ags):=q;clear q)
 go_ret
 exact⟨rfl,_,HQ.out⟩
structure Cl where
 sf:List (BitVec 8)
 cr:List (BitVec 8)
 tok:Nat
 amt:Nat
 tm:Nat
structure Cl.In (c:Cl) (C:List Value):Prop where
 l1:c.sf.length=20
 l2:c.cr.length=20
 sf:∀ j v,(vB c.sf)[j]?=some v->C[0+j]?=some v
 cr:∀ j v,(vB c.cr)[j]?=some v->C[20+j]?=some v
 tok:C[40]?=some (.int .i64 (c.tok:Int))
 tokl:c.tok<18446744073709551616
 amt:∀ j v,(wq c.amt)[j]?=some v->C[41+j]?=some v
 amtl:c.amt<2 ^ 256
 tm:C[46]?=some (.int .i64 (c.tm:Int))
 tml:c.tm<18446744073709551616
def exi (cl:Cl) (ags:List Nat) (ls:List Ins) (c a ni:Nat) (st:List Nat) (l nx:Nat):Except Int (List Nat × Nat):=match c with
 |0=>.error 105
 |2=>.ok (a :: st,nx)
 |3=>.ok (st.drop 1,nx)
 |4=>.ok (st.getD ni 0 :: st,nx)
 |5=>.ok ((st.set 0 (st.getD ni 0)).set ni (st.getD 0 0),nx)
 |12=>.ok ((if decide (st.getD 1 0=st.getD 0 0)=true then 1 else 0) :: st.drop 2,nx)
 |13=>.ok ((if decide (st.getD 0 0=0)=true then 1 else 0) :: st.drop 1,nx)
 |14=>.ok (st,stf ls ni-1)
 |15=>.ok (st.drop 1,if st.getD 0 0=0 then nx else stf ls ni-1)
 |16=>.ok (ags.getD ni 0 :: st,nx)
 |17=>.ok (ags.length :: st,nx)
 |18=>.ok (nb cl.cr :: st,nx)
 |19=>.ok (nb cl.sf :: st,nx)
 |20=>.ok (cl.tok :: st,nx)
 |21=>.ok (cl.amt :: st,nx)
 |22=>.ok (cl.tm :: st,nx)
 |23=>.ok (l :: st,nx)
 |c=>match bin c (st.getD 1 0) (st.getD 0 0) with
  |some (z,E)=>if E=0 then .ok (z :: st.drop 2,nx) else .error 104
  |none=>.error 0
theorem zwX (args:Array Value) (W:World):(callFunc 42 args).run Tryz.prog W=.ok (.enter 42 args) W:=by
 go_simp
theorem sp_push (r T gs n:Nat) (pl:Value) (C:List Value) (h av stk:Value) (st:List Nat) (l nx:Nat) (an:List Value) (ls:List Ins) (ags:List Nat) (cl:Cl) (pi ai ni:Nat) (hl:l<=10000) (hsl:st.length<=64) (hnx:nx<=1024) (k0 w0 w:World) (H:Rn k0 w0 w r T gs n pl C h av stk st.reverse l nx an ls ags):Calls Tryz.prog 70 #[.pointer (some ⟨r,0,none⟩),.agg (ic 2 pi ai ni).toArray] w fun e w'=>∃ v,e=.returned (.int .i64 v)/\StP k0 w0 w' r T gs n pl C h av l an ls ags 1 (0) (1) st (exi cl ags ls 2 ai ni st (l-1) (nx+1)) v:=by
 refine zcF r T gs n pl C h av stk st l nx an ls ags 2 pi ai ni _ 1 1 0 1 42 (by decide) rfl (0) (1) (fun W=>zaY _ _ 1 1 0 1 rfl rfl _ W) hl (by omega) hsl hnx k0 w0 w H _ zwX ?_
 intro hg ht hm W hW
 refine Calls.mono (do_push r T gs n pl C h av stk st.reverse _ _ an ls ags _ 2 pi ai ni rfl k0 w0 W hW (by rw[List.length_reverse];omega)) ?_
 rintro e w' ⟨rfl,stk',q⟩
 exact⟨0,rfl,rfl,stk',by rw[List.reverse_cons];exact q⟩
theorem zwS (args:Array Value) (W:World):(callFunc 57 args).run Tryz.prog W=.ok (.enter 57 args) W:=by
 go_simp
theorem sp_args (r T gs n:Nat) (pl:Value) (C:List Value) (h av stk:Value) (st:List Nat) (l nx:Nat) (an:List Value) (ls:List Ins) (ags:List Nat) (cl:Cl) (pi ai ni:Nat) (hl:l<=10000) (hsl:st.length<=64) (hnx:nx<=1024) (h8:ags.length<=8) (k0 w0 w:World) (H:Rn k0 w0 w r T gs n pl C h av stk st.reverse l nx an ls ags):Calls Tryz.prog 70 #[.pointer (some ⟨r,0,none⟩),.agg (ic 17 pi ai ni).toArray] w fun e w'=>∃ v,e=.returned (.int .i64 v)/\StP k0 w0 w' r T gs n pl C h av l an ls ags 2 (0) (1) st (exi cl ags ls 17 ai ni st (l-2) (nx+1)) v:=by
 refine zcF r T gs n pl C h av stk st l nx an ls ags 17 pi ai ni _ 0 2 0 1 57 (by decide) rfl (0) (1) (fun W=>zaY _ _ 0 2 0 1 rfl rfl _ W) hl (by omega) hsl hnx k0 w0 w H _ zwS ?_
 intro hg ht hm W hW
 refine Calls.mono (do_args r T gs n pl C h av stk st.reverse _ _ an ls ags _ ags.length (by omega) rfl k0 w0 W hW (by rw[List.length_reverse];omega)) ?_
 rintro e w' ⟨rfl,stk',q⟩
 exact⟨0,rfl,rfl,stk',by rw[List.reverse_cons];exact q⟩
theorem zqD (args:Array Value) (W:World):(callFunc 58 args).run Tryz.prog W=.ok (.enter 58 args) W:=by
 go_simp
theorem zuM (r T gs n:Nat) (pl:Value) (C:List Value) (h av stk:Value) (st:List Nat) (l nx:Nat) (an:List Value) (ls:List Ins) (ags:List Nat) (cl:Cl) (hcl:cl.In C) (pi ai ni:Nat) (hl:l<=10000) (hsl:st.length<=64) (hnx:nx<=1024) (k0 w0 w:World) (H:Rn k0 w0 w r T gs n pl C h av stk st.reverse l nx an ls ags):Calls Tryz.prog 70 #[.pointer (some ⟨r,0,none⟩),.agg (ic 18 pi ai ni).toArray] w fun e w'=>∃ v,e=.returned (.int .i64 v)/\StP k0 w0 w' r T gs n pl C h av l an ls ags 2 (0) (1) st (exi cl ags ls 18 ai ni st (l-2) (nx+1)) v:=by
 refine zcF r T gs n pl C h av stk st l nx an ls ags 18 pi ai ni _ 0 2 0 1 58 (by decide) rfl (0) (1) (fun W=>zaY _ _ 0 2 0 1 rfl rfl _ W) hl (by omega) hsl hnx k0 w0 w H _ zqD ?_
 intro hg ht hm W hW
 refine Calls.mono (zsH r T gs n pl C h av stk st.reverse _ _ an ls ags _ cl.cr hcl.l2 hcl.cr k0 w0 W hW (by rw[List.length_reverse];omega)) ?_
 rintro e w' ⟨rfl,stk',q⟩
 exact⟨0,rfl,rfl,stk',by rw[List.reverse_cons];exact q⟩
theorem zxA (args:Array Value) (W:World):(callFunc 59 args).run Tryz.prog W=.ok (.enter 59 args) W:=by
 go_simp
theorem sp_self (r T gs n:Nat) (pl:Value) (C:List Value) (h av stk:Value) (st:List Nat) (l nx:Nat) (an:List Value) (ls:List Ins) (ags:List Nat) (cl:Cl) (hcl:cl.In C) (pi ai ni:Nat) (hl:l<=10000) (hsl:st.length<=64) (hnx:nx<=1024) (k0 w0 w:World) (H:Rn k0 w0 w r T gs n pl C h av stk st.reverse l nx an ls ags):Calls Tryz.prog 70 #[.pointer (some ⟨r,0,none⟩),.agg (ic 19 pi ai ni).toArray] w fun e w'=>∃ v,e=.returned (.int .i64 v)/\StP k0 w0 w' r T gs n pl C h av l an ls ags 2 (0) (1) st (exi cl ags ls 19 ai ni st (l-2) (nx+1)) v:=by
 refine zcF r T gs n pl C h av stk st l nx an ls ags 19 pi ai ni _ 0 2 0 1 59 (by decide) rfl (0) (1) (fun W=>zaY _ _ 0 2 0 1 rfl rfl _ W) hl (by omega) hsl hnx k0 w0 w H _ zxA ?_
 intro hg ht hm W hW
 refine Calls.mono (do_self r T gs n pl C h av stk st.reverse _ _ an ls ags _ cl.sf hcl.l1 hcl.sf k0 w0 W hW (by rw[List.length_reverse];omega)) ?_
 rintro e w' ⟨rfl,stk',q⟩
 exact⟨0,rfl,rfl,stk',by rw[List.reverse_cons];exact q⟩
theorem zrV (args:Array Value) (W:World):(callFunc 60 args).run Tryz.prog W=.ok (.enter 60 args) W:=by
 go_simp
theorem zzP (r T gs n:Nat) (pl:Value) (C:List Value) (h av stk:Value) (st:List Nat) (l nx:Nat) (an:List Value) (ls:List Ins) (ags:List Nat) (cl:Cl) (hcl:cl.In C) (pi ai ni:Nat) (hl:l<=10000) (hsl:st.length<=64) (hnx:nx<=1024) (k0 w0 w:World) (H:Rn k0 w0 w r T gs n pl C h av stk st.reverse l nx an ls ags):Calls Tryz.prog 70 #[.pointer (some ⟨r,0,none⟩),.agg (ic 20 pi ai ni).toArray] w fun e w'=>∃ v,e=.returned (.int .i64 v)/\StP k0 w0 w' r T gs n pl C h av l an ls ags 2 (0) (1) st (exi cl ags ls 20 ai ni st (l-2) (nx+1)) v:=by
 refine zcF r T gs n pl C h av stk st l nx an ls ags 20 pi ai ni _ 0 2 0 1 60 (by decide) rfl (0) (1) (fun W=>zaY _ _ 0 2 0 1 rfl rfl _ W) hl (by omega) hsl hnx k0 w0 w H _ zrV ?_
 intro hg ht hm W hW
 refine Calls.mono (zxL r T gs n pl C h av stk st.reverse _ _ an ls ags _ cl.tok hcl.tokl hcl.tok k0 w0 W hW (by rw[List.length_reverse];omega)) ?_
 rintro e w' ⟨rfl,stk',q⟩
 exact⟨0,rfl,rfl,stk',by rw[List.reverse_cons];exact q⟩
theorem zqC (args:Array Value) (W:World):(callFunc 61 args).run Tryz.prog W=.ok (.enter 61 args) W:=by
 go_simp
theorem zuL (r T gs n:Nat) (pl:Value) (C:List Value) (h av stk:Value) (st:List Nat) (l nx:Nat) (an:List Value) (ls:List Ins) (ags:List Nat) (cl:Cl) (hcl:cl.In C) (pi ai ni:Nat) (hl:l<=10000) (hsl:st.length<=64) (hnx:nx<=1024) (k0 w0 w:World) (H:Rn k0 w0 w r T gs n pl C h av stk st.reverse l nx an ls ags):Calls Tryz.prog 70 #[.pointer (some ⟨r,0,none⟩),.agg (ic 21 pi ai ni).toArray] w fun e w'=>∃ v,e=.returned (.int .i64 v)/\StP k0 w0 w' r T gs n pl C h av l an ls ags 2 (0) (1) st (exi cl ags ls 21 ai ni st (l-2) (nx+1)) v:=by
 refine zcF r T gs n pl C h av stk st l nx an ls ags 21 pi ai ni _ 0 2 0 1 61 (by decide) rfl (0) (1) (fun W=>zaY _ _ 0 2 0 1 rfl rfl _ W) hl (by omega) hsl hnx k0 w0 w H _ zqC ?_
 intro hg ht hm W hW
 refine Calls.mono (zsG r T gs n pl C h av stk st.reverse _ _ an ls ags _ cl.amt hcl.amt k0 w0 W hW (by rw[List.length_reverse];omega)) ?_
 rintro e w' ⟨rfl,stk',q⟩
 exact⟨0,rfl,rfl,stk',by rw[List.reverse_cons];exact q⟩
theorem zxE (args:Array Value) (W:World):(callFunc 62 args).run Tryz.prog W=.ok (.enter 62 args) W:=by
 go_simp
theorem sp_time (r T gs n:Nat) (pl:Value) (C:List Value) (h av stk:Value) (st:List Nat) (l nx:Nat) (an:List Value) (ls:List Ins) (ags:List Nat) (cl:Cl) (hcl:cl.In C) (pi ai ni:Nat) (hl:l<=10000) (hsl:st.length<=64) (hnx:nx<=1024) (k0 w0 w:World) (H:Rn k0 w0 w r T gs n pl C h av stk st.reverse l nx an ls ags):Calls Tryz.prog 70 #[.pointer (some ⟨r,0,none⟩),.agg (ic 22 pi ai ni).toArray] w fun e w'=>∃ v,e=.returned (.int .i64 v)/\StP k0 w0 w' r T gs n pl C h av l an ls ags 2 (0) (1) st (exi cl ags ls 22 ai ni st (l-2) (nx+1)) v:=by
 refine zcF r T gs n pl C h av stk st l nx an ls ags 22 pi ai ni _ 0 2 0 1 62 (by decide) rfl (0) (1) (fun W=>zaY _ _ 0 2 0 1 rfl rfl _ W) hl (by omega) hsl hnx k0 w0 w H _ zxE ?_
 intro hg ht hm W hW
 refine Calls.mono (do_time r T gs n pl C h av stk st.reverse _ _ an ls ags _ cl.tm hcl.tml hcl.tm k0 w0 W hW (by rw[List.length_reverse];omega)) ?_
 rintro e w' ⟨rfl,stk',q⟩
 exact⟨0,rfl,rfl,stk',by rw[List.reverse_cons];exact q⟩
theorem cfe_gas (args:Array Value) (W:World):(callFunc 63 args).run Tryz.prog W=.ok (.enter 63 args) W:=by
 go_simp
theorem sp_gas (r T gs n:Nat) (pl:Value) (C:List Value) (h av stk:Value) (st:List Nat) (l nx:Nat) (an:List Value) (ls:List Ins) (ags:List Nat) (cl:Cl) (pi ai ni:Nat) (hl:l<=10000) (hsl:st.length<=64) (hnx:nx<=1024) (k0 w0 w:World) (H:Rn k0 w0 w r T gs n pl C h av stk st.reverse l nx an ls ags):Calls Tryz.prog 70 #[.pointer (some ⟨r,0,none⟩),.agg (ic 23 pi ai ni).toArray] w fun e w'=>∃ v,e=.returned (.int .i64 v)/\StP k0 w0 w' r T gs n pl C h av l an ls ags 2 (0) (1) st (exi cl ags ls 23 ai ni st (l-2) (nx+1)) v:=by
 refine zcF r T gs n pl C h av stk st l nx an ls ags 23 pi ai ni _ 0 2 0 1 63 (by decide) rfl (0) (1) (fun W=>zaY _ _ 0 2 0 1 rfl rfl _ W) hl (by omega) hsl hnx k0 w0 w H _ cfe_gas ?_
 intro hg ht hm W hW
 refine Calls.mono (do_gas r T gs n pl C h av stk st.reverse _ _ an ls ags _ (l-2) (by omega) rfl k0 w0 W hW (by rw[List.length_reverse];omega)) ?_
 rintro e w' ⟨rfl,stk',q⟩
 exact⟨0,rfl,rfl,stk',by rw[List.reverse_cons];exact q⟩
theorem zxC (args:Array Value) (W:World):(callFunc 40 args).run Tryz.prog W=.ok (.enter 40 args) W:=by
 go_simp
theorem sp_stop (r T gs n:Nat) (pl:Value) (C:List Value) (h av stk:Value) (st:List Nat) (l nx:Nat) (an:List Value) (ls:List Ins) (ags:List Nat) (cl:Cl) (pi ai ni:Nat) (hl:l<=10000) (hsl:st.length<=64) (hnx:nx<=1024) (k0 w0 w:World) (H:Rn k0 w0 w r T gs n pl C h av stk st.reverse l nx an ls ags):Calls Tryz.prog 70 #[.pointer (some ⟨r,0,none⟩),.agg (ic 0 pi ai ni).toArray] w fun e w'=>∃ v,e=.returned (.int .i64 v)/\StP k0 w0 w' r T gs n pl C h av l an ls ags 1 (0) (0) st (exi cl ags ls 0 ai ni st (l-1) (nx+1)) v:=by
 refine zcF r T gs n pl C h av stk st l nx an ls ags 0 pi ai ni _ 0 1 0 0 40 (by decide) rfl (0) (0) (fun W=>zaY _ _ 0 1 0 0 rfl rfl _ W) hl (by omega) hsl hnx k0 w0 w H _ zxC ?_
 intro hg ht hm W hW
 refine Calls.mono (do_stop r T gs n pl C h av stk st.reverse _ _ an ls ags _ k0 w0 W hW) ?_
 rintro e w' ⟨rfl,q⟩
 exact⟨105,rfl,rfl,_,_,_,q⟩
theorem cfe_pop (args:Array Value) (W:World):(callFunc 43 args).run Tryz.prog W=.ok (.enter 43 args) W:=by
 go_simp
theorem sp_pop (r T gs n:Nat) (pl:Value) (C:List Value) (h av stk:Value) (st:List Nat) (l nx:Nat) (an:List Value) (ls:List Ins) (ags:List Nat) (cl:Cl) (pi ai ni:Nat) (hl:l<=10000) (hsl:st.length<=64) (hnx:nx<=1024) (k0 w0 w:World) (H:Rn k0 w0 w r T gs n pl C h av stk st.reverse l nx an ls ags):Calls Tryz.prog 70 #[.pointer (some ⟨r,0,none⟩),.agg (ic 3 pi ai ni).toArray] w fun e w'=>∃ v,e=.returned (.int .i64 v)/\StP k0 w0 w' r T gs n pl C h av l an ls ags 1 (1) (0) st (exi cl ags ls 3 ai ni st (l-1) (nx+1)) v:=by
 refine zcF r T gs n pl C h av stk st l nx an ls ags 3 pi ai ni _ 0 1 1 0 43 (by decide) rfl (1) (0) (fun W=>zaY _ _ 0 1 1 0 rfl rfl _ W) hl (by omega) hsl hnx k0 w0 w H _ cfe_pop ?_
 intro hg ht hm W hW
 obtain⟨x,st',rfl⟩:∃ x st',st=x :: st':=by
  cases st with
  |nil=>exact absurd ht (by decide)
  |cons x st'=>exact⟨x,st',rfl⟩
 rw[List.reverse_cons] at hW
 have hsr:st'.reverse.length<=900:=by rw[List.length_reverse];rw[List.length_cons] at hsl;omega
 refine Calls.mono (do_pop r T gs n pl C h av stk st'.reverse _ _ an ls ags _ x k0 w0 W hW hsr) ?_
 rintro e w' ⟨rfl,stk',q⟩
 exact⟨0,rfl,rfl,stk',q⟩
theorem cfe_not (args:Array Value) (W:World):(callFunc 53 args).run Tryz.prog W=.ok (.enter 53 args) W:=by
 go_simp
theorem sp_not (r T gs n:Nat) (pl:Value) (C:List Value) (h av stk:Value) (st:List Nat) (l nx:Nat) (an:List Value) (ls:List Ins) (ags:List Nat) (cl:Cl) (pi ai ni:Nat) (hst:∀ a ∈ st,a<2 ^ 256) (hl:l<=10000) (hsl:st.length<=64) (hnx:nx<=1024) (k0 w0 w:World) (H:Rn k0 w0 w r T gs n pl C h av stk st.reverse l nx an ls ags):Calls Tryz.prog 70 #[.pointer (some ⟨r,0,none⟩),.agg (ic 13 pi ai ni).toArray] w fun e w'=>∃ v,e=.returned (.int .i64 v)/\StP k0 w0 w' r T gs n pl C h av l an ls ags 2 (1) (1) st (exi cl ags ls 13 ai ni st (l-2) (nx+1)) v:=by
 refine zcF r T gs n pl C h av stk st l nx an ls ags 13 pi ai ni _ 0 2 1 1 53 (by decide) rfl (1) (1) (fun W=>zaY _ _ 0 2 1 1 rfl rfl _ W) hl (by omega) hsl hnx k0 w0 w H _ cfe_not ?_
 intro hg ht hm W hW
 obtain⟨x,st',rfl⟩:∃ x st',st=x :: st':=by
  cases st with
  |nil=>exact absurd ht (by decide)
  |cons x st'=>exact⟨x,st',rfl⟩
 rw[List.reverse_cons] at hW
 have hx:x<2 ^ 256:=hst x (by simp)
 have hsr:st'.reverse.length<=900:=by rw[List.length_reverse];rw[List.length_cons] at hsl;omega
 refine Calls.mono (do_not r T gs n pl C h av stk st'.reverse _ _ an ls ags _ x _ hx rfl k0 w0 W hW hsr) ?_
 rintro e w' ⟨rfl,stk',q⟩
 exact⟨0,rfl,rfl,stk',by rw[List.reverse_cons];exact q⟩
theorem zwY (args:Array Value) (W:World):(callFunc 52 args).run Tryz.prog W=.ok (.enter 52 args) W:=by
 go_simp
theorem sp_same (r T gs n:Nat) (pl:Value) (C:List Value) (h av stk:Value) (st:List Nat) (l nx:Nat) (an:List Value) (ls:List Ins) (ags:List Nat) (cl:Cl) (pi ai ni:Nat) (hst:∀ a ∈ st,a<2 ^ 256) (hl:l<=10000) (hsl:st.length<=64) (hnx:nx<=1024) (k0 w0 w:World) (H:Rn k0 w0 w r T gs n pl C h av stk st.reverse l nx an ls ags):Calls Tryz.prog 70 #[.pointer (some ⟨r,0,none⟩),.agg (ic 12 pi ai ni).toArray] w fun e w'=>∃ v,e=.returned (.int .i64 v)/\StP k0 w0 w' r T gs n pl C h av l an ls ags 2 (2) (1) st (exi cl ags ls 12 ai ni st (l-2) (nx+1)) v:=by
 refine zcF r T gs n pl C h av stk st l nx an ls ags 12 pi ai ni _ 0 2 2 1 52 (by decide) rfl (2) (1) (fun W=>zaY _ _ 0 2 2 1 rfl rfl _ W) hl (by omega) hsl hnx k0 w0 w H _ zwY ?_
 intro hg ht hm W hW
 obtain⟨y,x,st',rfl⟩:∃ y x st',st=y :: x :: st':=by
  cases st with
  |nil=>exact absurd ht (by decide)
  |cons y st'=>cases st' with
   |nil=>exact absurd ht (by rw[List.length_singleton];decide)
   |cons x st'=>exact⟨y,x,st',rfl⟩
 rw[List.reverse_cons,List.reverse_cons] at hW
 have hy:y<2 ^ 256:=hst y (by simp)
 have hx:x<2 ^ 256:=hst x (by simp)
 have hsr:st'.reverse.length<=900:=by rw[List.length_reverse];rw[List.length_cons,List.length_cons] at hsl;omega
 refine Calls.mono (do_same r T gs n pl C h av stk st'.reverse _ _ an ls ags _ x y _ hx hy rfl k0 w0 W hW hsr) ?_
 rintro e w' ⟨rfl,stk',q⟩
 exact⟨0,rfl,rfl,stk',by rw[List.reverse_cons];exact q⟩
theorem zwU (args:Array Value) (W:World):(callFunc 54 args).run Tryz.prog W=.ok (.enter 54 args) W:=by
 go_simp
theorem sp_jump (r T gs n:Nat) (pl:Value) (C:List Value) (h av stk:Value) (st:List Nat) (l nx:Nat) (an:List Value) (ls:List Ins) (ags:List Nat) (cl:Cl) (pi ai ni:Nat) (hl:l<=10000) (hsl:st.length<=64) (hnx:nx<=1024) (m:Nat) (hp:ni<n) (hm:stf ls ni=m+1) (hml:m<=100000) (k0 w0 w:World) (H:Rn k0 w0 w r T gs n pl C h av stk st.reverse l nx an ls ags):Calls Tryz.prog 70 #[.pointer (some ⟨r,0,none⟩),.agg (ic 14 pi ai ni).toArray] w fun e w'=>∃ v,e=.returned (.int .i64 v)/\StP k0 w0 w' r T gs n pl C h av l an ls ags 5 (0) (0) st (exi cl ags ls 14 ai ni st (l-5) (nx+1)) v:=by
 refine zcF r T gs n pl C h av stk st l nx an ls ags 14 pi ai ni _ 5 5 0 0 54 (by decide) rfl (0) (0) (fun W=>zaY _ _ 5 5 0 0 rfl rfl _ W) hl (by omega) hsl hnx k0 w0 w H _ zwU ?_
 intro hg ht hm W hW
 refine Calls.mono (do_jump r T gs n pl C h av stk st.reverse _ _ an ls ags _ 14 pi ai ni m rfl hp ‹stf ls ni=m+1› hml k0 w0 W hW) ?_
 rintro e w' ⟨rfl,stk',q⟩
 refine⟨0,rfl,rfl,stk',?_⟩
 rw[show stf ls ni-1=m by omega]
 exact q
theorem zxF (args:Array Value) (W:World):(callFunc 55 args).run Tryz.prog W=.ok (.enter 55 args) W:=by
 go_simp
theorem sp_when (r T gs n:Nat) (pl:Value) (C:List Value) (h av stk:Value) (st:List Nat) (l nx:Nat) (an:List Value) (ls:List Ins) (ags:List Nat) (cl:Cl) (pi ai ni:Nat) (hst:∀ a ∈ st,a<2 ^ 256) (hl:l<=10000) (hsl:st.length<=64) (hnx:nx<=1024) (m:Nat) (hp:ni<n) (hm:stf ls ni=m+1) (hml:m<=100000) (k0 w0 w:World) (H:Rn k0 w0 w r T gs n pl C h av stk st.reverse l nx an ls ags):Calls Tryz.prog 70 #[.pointer (some ⟨r,0,none⟩),.agg (ic 15 pi ai ni).toArray] w fun e w'=>∃ v,e=.returned (.int .i64 v)/\StP k0 w0 w' r T gs n pl C h av l an ls ags 5 (1) (0) st (exi cl ags ls 15 ai ni st (l-5) (nx+1)) v:=by
 refine zcF r T gs n pl C h av stk st l nx an ls ags 15 pi ai ni _ 5 5 1 0 55 (by decide) rfl (1) (0) (fun W=>zaY _ _ 5 5 1 0 rfl rfl _ W) hl (by omega) hsl hnx k0 w0 w H _ zxF ?_
 intro hg ht hm W hW
 obtain⟨x,st',rfl⟩:∃ x st',st=x :: st':=by
  cases st with
  |nil=>exact absurd ht (by decide)
  |cons x st'=>exact⟨x,st',rfl⟩
 rw[List.reverse_cons] at hW
 have hx:x<2 ^ 256:=hst x (by simp)
 have hsr:st'.reverse.length<=900:=by rw[List.length_reverse];rw[List.length_cons] at hsl;omega
 by_cases hx0:x=0
 ·refine Calls.mono (zxM r T gs n pl C h av stk st'.reverse _ _ an ls ags _ x hx hx0 k0 w0 W hW hsr) ?_
  rintro e w' ⟨rfl,stk',q⟩
  refine⟨0,rfl,rfl,stk',?_⟩
  show Rn _ _ _ _ _ _ _ _ _ _ _ _ _ _ (if x=0 then nx+1 else stf ls ni-1) _ _ _
  rw[if_pos hx0]
  exact q
 ·refine Calls.mono (zxN r T gs n pl C h av stk st'.reverse _ _ an ls ags _ x hx hx0 15 pi ai ni m rfl hp ‹stf ls ni=m+1› hml k0 w0 W hW hsr) ?_
  rintro e w' ⟨rfl,stk',q⟩
  refine⟨0,rfl,rfl,stk',?_⟩
  show Rn _ _ _ _ _ _ _ _ _ _ _ _ _ _ (if x=0 then nx+1 else stf ls ni-1) _ _ _
  rw[if_neg hx0,show stf ls ni-1=m by omega]
  exact q
theorem cfe_add (args:Array Value) (W:World):(callFunc 46 args).run Tryz.prog W=.ok (.enter 46 args) W:=by
 go_simp
theorem sp_add (r T gs n:Nat) (pl:Value) (C:List Value) (h av stk:Value) (st:List Nat) (l nx:Nat) (an:List Value) (ls:List Ins) (ags:List Nat) (cl:Cl) (pi ai ni:Nat) (hst:∀ a ∈ st,a<2 ^ 256) (hl:l<=10000) (hsl:st.length<=64) (hnx:nx<=1024) (k0 w0 w:World) (H:Rn k0 w0 w r T gs n pl C h av stk st.reverse l nx an ls ags):Calls Tryz.prog 70 #[.pointer (some ⟨r,0,none⟩),.agg (ic 6 pi ai ni).toArray] w fun e w'=>∃ v,e=.returned (.int .i64 v)/\StP k0 w0 w' r T gs n pl C h av l an ls ags 2 (2) (1) st (exi cl ags ls 6 ai ni st (l-2) (nx+1)) v:=by
 refine zcF r T gs n pl C h av stk st l nx an ls ags 6 pi ai ni _ 0 2 2 1 46 (by decide) rfl (2) (1) (fun W=>zaY _ _ 0 2 2 1 rfl rfl _ W) hl (by omega) hsl hnx k0 w0 w H _ cfe_add ?_
 intro hg ht hm W hW
 obtain⟨y,x,st',rfl⟩:∃ y x st',st=y :: x :: st':=by
  cases st with
  |nil=>exact absurd ht (by decide)
  |cons y st'=>cases st' with
   |nil=>exact absurd ht (by rw[List.length_singleton];decide)
   |cons x st'=>exact⟨y,x,st',rfl⟩
 rw[List.reverse_cons,List.reverse_cons] at hW
 have hy:y<2 ^ 256:=hst y (by simp)
 have hx:x<2 ^ 256:=hst x (by simp)
 have hsr:st'.reverse.length<=900:=by rw[List.length_reverse];rw[List.length_cons,List.length_cons] at hsl;omega
 obtain⟨z,E,hb⟩:∃ z E,bin 6 x y=some (z,E):=⟨_,_,rfl⟩
 obtain⟨hz,hE⟩:_/\_:=by simpa [bin] using hb
 refine Calls.mono (do_add r T gs n pl C h av stk st'.reverse _ _ an ls ags _ x y z E hx hy hz.symm hE.symm k0 w0 W hW hsr) ?_
 rintro e w' ⟨v,rfl,q1,q2⟩
 refine⟨v,rfl,?_⟩
 have er:exi cl ags ls 6 ai ni (y :: x :: st') (l-2) (nx+1)=(match bin 6 x y with|some (z,E)=>if E=0 then .ok (z :: st',nx+1) else .error 104|none=>.error 0):=rfl
 rw[er,hb]
 show DoP _ _ _ _ _ _ _ _ _ _ _ _ _ _ _ (if E=0 then _ else _) _
 by_cases hE0:E=0
 ·rw[if_pos hE0]
  obtain⟨hv,stk',q⟩:=q1 hE0
  exact⟨hv,stk',by rw[List.reverse_cons];exact q⟩
 ·rw[if_neg hE0]
  obtain⟨hv,stk',q⟩:=q2 hE0
  exact⟨hv,stk',_,_,q⟩
theorem cfe_sub (args:Array Value) (W:World):(callFunc 47 args).run Tryz.prog W=.ok (.enter 47 args) W:=by
 go_simp
theorem sp_sub (r T gs n:Nat) (pl:Value) (C:List Value) (h av stk:Value) (st:List Nat) (l nx:Nat) (an:List Value) (ls:List Ins) (ags:List Nat) (cl:Cl) (pi ai ni:Nat) (hst:∀ a ∈ st,a<2 ^ 256) (hl:l<=10000) (hsl:st.length<=64) (hnx:nx<=1024) (k0 w0 w:World) (H:Rn k0 w0 w r T gs n pl C h av stk st.reverse l nx an ls ags):Calls Tryz.prog 70 #[.pointer (some ⟨r,0,none⟩),.agg (ic 7 pi ai ni).toArray] w fun e w'=>∃ v,e=.returned (.int .i64 v)/\StP k0 w0 w' r T gs n pl C h av l an ls ags 2 (2) (1) st (exi cl ags ls 7 ai ni st (l-2) (nx+1)) v:=by
 refine zcF r T gs n pl C h av stk st l nx an ls ags 7 pi ai ni _ 0 2 2 1 47 (by decide) rfl (2) (1) (fun W=>zaY _ _ 0 2 2 1 rfl rfl _ W) hl (by omega) hsl hnx k0 w0 w H _ cfe_sub ?_
 intro hg ht hm W hW
 obtain⟨y,x,st',rfl⟩:∃ y x st',st=y :: x :: st':=by
  cases st with
  |nil=>exact absurd ht (by decide)
  |cons y st'=>cases st' with
   |nil=>exact absurd ht (by rw[List.length_singleton];decide)
   |cons x st'=>exact⟨y,x,st',rfl⟩
 rw[List.reverse_cons,List.reverse_cons] at hW
 have hy:y<2 ^ 256:=hst y (by simp)
 have hx:x<2 ^ 256:=hst x (by simp)
 have hsr:st'.reverse.length<=900:=by rw[List.length_reverse];rw[List.length_cons,List.length_cons] at hsl;omega
 obtain⟨z,E,hb⟩:∃ z E,bin 7 x y=some (z,E):=⟨_,_,rfl⟩
 obtain⟨hz,hE⟩:_/\_:=by simpa [bin] using hb
 refine Calls.mono (do_sub r T gs n pl C h av stk st'.reverse _ _ an ls ags _ x y z E hx hy hz.symm hE.symm k0 w0 W hW hsr) ?_
 rintro e w' ⟨v,rfl,q1,q2⟩
 refine⟨v,rfl,?_⟩
 have er:exi cl ags ls 7 ai ni (y :: x :: st') (l-2) (nx+1)=(match bin 7 x y with|some (z,E)=>if E=0 then .ok (z :: st',nx+1) else .error 104|none=>.error 0):=rfl
 rw[er,hb]
 show DoP _ _ _ _ _ _ _ _ _ _ _ _ _ _ _ (if E=0 then _ else _) _
 by_cases hE0:E=0
 ·rw[if_pos hE0]
  obtain⟨hv,stk',q⟩:=q1 hE0
  exact⟨hv,stk',by rw[List.reverse_cons];exact q⟩
 ·rw[if_neg hE0]
  obtain⟨hv,stk',q⟩:=q2 hE0
  exact⟨hv,stk',_,_,q⟩
theorem cfe_mul (args:Array Value) (W:World):(callFunc 48 args).run Tryz.prog W=.ok (.enter 48 args) W:=by
 go_simp
theorem sp_mul (r T gs n:Nat) (pl:Value) (C:List Value) (h av stk:Value) (st:List Nat) (l nx:Nat) (an:List Value) (ls:List Ins) (ags:List Nat) (cl:Cl) (pi ai ni:Nat) (hst:∀ a ∈ st,a<2 ^ 256) (hl:l<=10000) (hsl:st.length<=64) (hnx:nx<=1024) (k0 w0 w:World) (H:Rn k0 w0 w r T gs n pl C h av stk st.reverse l nx an ls ags):Calls Tryz.prog 70 #[.pointer (some ⟨r,0,none⟩),.agg (ic 8 pi ai ni).toArray] w fun e w'=>∃ v,e=.returned (.int .i64 v)/\StP k0 w0 w' r T gs n pl C h av l an ls ags 5 (2) (1) st (exi cl ags ls 8 ai ni st (l-5) (nx+1)) v:=by
 refine zcF r T gs n pl C h av stk st l nx an ls ags 8 pi ai ni _ 0 5 2 1 48 (by decide) rfl (2) (1) (fun W=>zaY _ _ 0 5 2 1 rfl rfl _ W) hl (by omega) hsl hnx k0 w0 w H _ cfe_mul ?_
 intro hg ht hm W hW
 obtain⟨y,x,st',rfl⟩:∃ y x st',st=y :: x :: st':=by
  cases st with
  |nil=>exact absurd ht (by decide)
  |cons y st'=>cases st' with
   |nil=>exact absurd ht (by rw[List.length_singleton];decide)
   |cons x st'=>exact⟨y,x,st',rfl⟩
 rw[List.reverse_cons,List.reverse_cons] at hW
 have hy:y<2 ^ 256:=hst y (by simp)
 have hx:x<2 ^ 256:=hst x (by simp)
 have hsr:st'.reverse.length<=900:=by rw[List.length_reverse];rw[List.length_cons,List.length_cons] at hsl;omega
 obtain⟨z,E,hb⟩:∃ z E,bin 8 x y=some (z,E):=⟨_,_,rfl⟩
 obtain⟨hz,hE⟩:_/\_:=by simpa [bin] using hb
 refine Calls.mono (do_mul r T gs n pl C h av stk st'.reverse _ _ an ls ags _ x y z E hx hy hz.symm hE.symm k0 w0 W hW hsr) ?_
 rintro e w' ⟨v,rfl,q1,q2⟩
 refine⟨v,rfl,?_⟩
 have er:exi cl ags ls 8 ai ni (y :: x :: st') (l-5) (nx+1)=(match bin 8 x y with|some (z,E)=>if E=0 then .ok (z :: st',nx+1) else .error 104|none=>.error 0):=rfl
 rw[er,hb]
 show DoP _ _ _ _ _ _ _ _ _ _ _ _ _ _ _ (if E=0 then _ else _) _
 by_cases hE0:E=0
 ·rw[if_pos hE0]
  obtain⟨hv,stk',q⟩:=q1 hE0
  exact⟨hv,stk',by rw[List.reverse_cons];exact q⟩
 ·rw[if_neg hE0]
  obtain⟨hv,stk',q⟩:=q2 hE0
  exact⟨hv,stk',_,_,q⟩
theorem cfe_div (args:Array Value) (W:World):(callFunc 49 args).run Tryz.prog W=.ok (.enter 49 args) W:=by
 go_simp
theorem sp_div (r T gs n:Nat) (pl:Value) (C:List Value) (h av stk:Value) (st:List Nat) (l nx:Nat) (an:List Value) (ls:List Ins) (ags:List Nat) (cl:Cl) (pi ai ni:Nat) (hst:∀ a ∈ st,a<2 ^ 256) (hl:l<=10000) (hsl:st.length<=64) (hnx:nx<=1024) (k0 w0 w:World) (H:Rn k0 w0 w r T gs n pl C h av stk st.reverse l nx an ls ags):Calls Tryz.prog 70 #[.pointer (some ⟨r,0,none⟩),.agg (ic 9 pi ai ni).toArray] w fun e w'=>∃ v,e=.returned (.int .i64 v)/\StP k0 w0 w' r T gs n pl C h av l an ls ags 10 (2) (1) st (exi cl ags ls 9 ai ni st (l-10) (nx+1)) v:=by
 refine zcF r T gs n pl C h av stk st l nx an ls ags 9 pi ai ni _ 0 10 2 1 49 (by decide) rfl (2) (1) (fun W=>zaY _ _ 0 10 2 1 rfl rfl _ W) hl (by omega) hsl hnx k0 w0 w H _ cfe_div ?_
 intro hg ht hm W hW
 obtain⟨y,x,st',rfl⟩:∃ y x st',st=y :: x :: st':=by
  cases st with
  |nil=>exact absurd ht (by decide)
  |cons y st'=>cases st' with
   |nil=>exact absurd ht (by rw[List.length_singleton];decide)
   |cons x st'=>exact⟨y,x,st',rfl⟩
 rw[List.reverse_cons,List.reverse_cons] at hW
 have hy:y<2 ^ 256:=hst y (by simp)
 have hx:x<2 ^ 256:=hst x (by simp)
 have hsr:st'.reverse.length<=900:=by rw[List.length_reverse];rw[List.length_cons,List.length_cons] at hsl;omega
 obtain⟨z,E,hb⟩:∃ z E,bin 9 x y=some (z,E):=⟨_,_,rfl⟩
 obtain⟨hz,hE⟩:_/\_:=by simpa [bin] using hb
 refine Calls.mono (do_div r T gs n pl C h av stk st'.reverse _ _ an ls ags _ x y z E hx hy hz.symm hE.symm k0 w0 W hW hsr) ?_
 rintro e w' ⟨v,rfl,q1,q2⟩
 refine⟨v,rfl,?_⟩
 have er:exi cl ags ls 9 ai ni (y :: x :: st') (l-10) (nx+1)=(match bin 9 x y with|some (z,E)=>if E=0 then .ok (z :: st',nx+1) else .error 104|none=>.error 0):=rfl
 rw[er,hb]
 show DoP _ _ _ _ _ _ _ _ _ _ _ _ _ _ _ (if E=0 then _ else _) _
 by_cases hE0:E=0
 ·rw[if_pos hE0]
  obtain⟨hv,stk',q⟩:=q1 hE0
  exact⟨hv,stk',by rw[List.reverse_cons];exact q⟩
 ·rw[if_neg hE0]
  obtain⟨hv,stk',q⟩:=q2 hE0
  exact⟨hv,stk',_,_,q⟩
theorem cfe_mod (args:Array Value) (W:World):(callFunc 50 args).run Tryz.prog W=.ok (.enter 50 args) W:=by
 go_simp
theorem sp_mod (r T gs n:Nat) (pl:Value) (C:List Value) (h av stk:Value) (st:List Nat) (l nx:Nat) (an:List Value) (ls:List Ins) (ags:List Nat) (cl:Cl) (pi ai ni:Nat) (hst:∀ a ∈ st,a<2 ^ 256) (hl:l<=10000) (hsl:st.length<=64) (hnx:nx<=1024) (k0 w0 w:World) (H:Rn k0 w0 w r T gs n pl C h av stk st.reverse l nx an ls ags):Calls Tryz.prog 70 #[.pointer (some ⟨r,0,none⟩),.agg (ic 10 pi ai ni).toArray] w fun e w'=>∃ v,e=.returned (.int .i64 v)/\StP k0 w0 w' r T gs n pl C h av l an ls ags 10 (2) (1) st (exi cl ags ls 10 ai ni st (l-10) (nx+1)) v:=by
 refine zcF r T gs n pl C h av stk st l nx an ls ags 10 pi ai ni _ 0 10 2 1 50 (by decide) rfl (2) (1) (fun W=>zaY _ _ 0 10 2 1 rfl rfl _ W) hl (by omega) hsl hnx k0 w0 w H _ cfe_mod ?_
 intro hg ht hm W hW
 obtain⟨y,x,st',rfl⟩:∃ y x st',st=y :: x :: st':=by
  cases st with
  |nil=>exact absurd ht (by decide)
  |cons y st'=>cases st' with
   |nil=>exact absurd ht (by rw[List.length_singleton];decide)
   |cons x st'=>exact⟨y,x,st',rfl⟩
 rw[List.reverse_cons,List.reverse_cons] at hW
 have hy:y<2 ^ 256:=hst y (by simp)
 have hx:x<2 ^ 256:=hst x (by simp)
 have hsr:st'.reverse.length<=900:=by rw[List.length_reverse];rw[List.length_cons,List.length_cons] at hsl;omega
 obtain⟨z,E,hb⟩:∃ z E,bin 10 x y=some (z,E):=⟨_,_,rfl⟩
 obtain⟨hz,hE⟩:_/\_:=by simpa [bin] using hb
 refine Calls.mono (do_mod r T gs n pl C h av stk st'.reverse _ _ an ls ags _ x y z E hx hy hz.symm hE.symm k0 w0 W hW hsr) ?_
 rintro e w' ⟨v,rfl,q1,q2⟩
 refine⟨v,rfl,?_⟩
 have er:exi cl ags ls 10 ai ni (y :: x :: st') (l-10) (nx+1)=(match bin 10 x y with|some (z,E)=>if E=0 then .ok (z :: st',nx+1) else .error 104|none=>.error 0):=rfl
 rw[er,hb]
 show DoP _ _ _ _ _ _ _ _ _ _ _ _ _ _ _ (if E=0 then _ else _) _
 by_cases hE0:E=0
 ·rw[if_pos hE0]
  obtain⟨hv,stk',q⟩:=q1 hE0
  exact⟨hv,stk',by rw[List.reverse_cons];exact q⟩
 ·rw[if_neg hE0]
  obtain⟨hv,stk',q⟩:=q2 hE0
  exact⟨hv,stk',_,_,q⟩
theorem zwV (args:Array Value) (W:World):(callFunc 51 args).run Tryz.prog W=.ok (.enter 51 args) W:=by
 go_simp
theorem sp_less (r T gs n:Nat) (pl:Value) (C:List Value) (h av stk:Value) (st:List Nat) (l nx:Nat) (an:List Value) (ls:List Ins) (ags:List Nat) (cl:Cl) (pi ai ni:Nat) (hst:∀ a ∈ st,a<2 ^ 256) (hl:l<=10000) (hsl:st.length<=64) (hnx:nx<=1024) (k0 w0 w:World) (H:Rn k0 w0 w r T gs n pl C h av stk st.reverse l nx an ls ags):Calls Tryz.prog 70 #[.pointer (some ⟨r,0,none⟩),.agg (ic 11 pi ai ni).toArray] w fun e w'=>∃ v,e=.returned (.int .i64 v)/\StP k0 w0 w' r T gs n pl C h av l an ls ags 2 (2) (1) st (exi cl ags ls 11 ai ni st (l-2) (nx+1)) v:=by
 refine zcF r T gs n pl C h av stk st l nx an ls ags 11 pi ai ni _ 0 2 2 1 51 (by decide) rfl (2) (1) (fun W=>zaY _ _ 0 2 2 1 rfl rfl _ W) hl (by omega) hsl hnx k0 w0 w H _ zwV ?_
 intro hg ht hm W hW
 obtain⟨y,x,st',rfl⟩:∃ y x st',st=y :: x :: st':=by
  cases st with
  |nil=>exact absurd ht (by decide)
  |cons y st'=>cases st' with
   |nil=>exact absurd ht (by rw[List.length_singleton];decide)
   |cons x st'=>exact⟨y,x,st',rfl⟩
 rw[List.reverse_cons,List.reverse_cons] at hW
 have hy:y<2 ^ 256:=hst y (by simp)
 have hx:x<2 ^ 256:=hst x (by simp)
 have hsr:st'.reverse.length<=900:=by rw[List.length_reverse];rw[List.length_cons,List.length_cons] at hsl;omega
 obtain⟨z,E,hb⟩:∃ z E,bin 11 x y=some (z,E):=⟨_,_,rfl⟩
 obtain⟨hz,hE⟩:_/\_:=by simpa [bin] using hb
 refine Calls.mono (do_less r T gs n pl C h av stk st'.reverse _ _ an ls ags _ x y z E hx hy hz.symm hE.symm k0 w0 W hW hsr) ?_
 rintro e w' ⟨v,rfl,q1,q2⟩
 refine⟨v,rfl,?_⟩
 have er:exi cl ags ls 11 ai ni (y :: x :: st') (l-2) (nx+1)=(match bin 11 x y with|some (z,E)=>if E=0 then .ok (z :: st',nx+1) else .error 104|none=>.error 0):=rfl
 rw[er,hb]
 show DoP _ _ _ _ _ _ _ _ _ _ _ _ _ _ _ (if E=0 then _ else _) _
 by_cases hE0:E=0
 ·rw[if_pos hE0]
  obtain⟨hv,stk',q⟩:=q1 hE0
  exact⟨hv,stk',by rw[List.reverse_cons];exact q⟩
 ·rw[if_neg hE0]
  obtain⟨hv,stk',q⟩:=q2 hE0
  exact⟨hv,stk',_,_,q⟩
end Go.Proofs.YtedeobikfddmgaaGreat
