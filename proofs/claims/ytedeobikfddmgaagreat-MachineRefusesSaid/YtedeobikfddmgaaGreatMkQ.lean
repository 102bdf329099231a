import Derived.Test.YtedeobikfddmgaaGreatMkAA
import Derived.Test.YtedeobikfddmgaaGreatMkL
import Derived.Deep.RegionLaw
import Derived.Test.YtedeobikfddmgaaGreatXMem
import Derived.BigRegion
set_option maxRecDepth 100000
set_option maxHeartbeats 16000000
namespace Go.Proofs.YtedeobikfddmgaaGreat
open Go Go.RowKit
open Sha
open Wd
theorem zqN:(Tryz.prog.info? 27).map (fun i=>(i.zero,i.size,i.bytes))=some (some (.agg zW.toArray),4,32):=by kernel_rfl
theorem zbO:∃ ie z,Tryz.prog.info? 27=some ie/\ie.zero=some z/\ie.size=4/\ie.bytes=32/\z.cells.size=4:=by
 have i1:=zqN
 cases hi:Tryz.prog.info? 27 with
 |none=>rw[hi] at i1;cases i1
 |some ie=>
  rw[hi] at i1
  simp only[Option.map_some,Option.some.injEq,Prod.mk.injEq] at i1
  exact⟨ie,_,rfl,i1.1,i1.2.1,i1.2.2,rfl⟩
theorem zcM:∃ ie z,Tryz.prog.info? 27=some ie/\ie.zero=some z/\ie.size=4/\z.cells.size=4:=by
 obtain⟨ie,z,h1,h2,h3,_,h5⟩:=zbO
 exact⟨ie,z,h1,h2,h3,h5⟩
theorem zmL (a:Nat):∀ v ∈ wq a,v.oneCell'=true:=by
 have:=zbH a
 rw[<-Array.all_toList] at this
 exact List.all_eq_true.1 this
section
variable {ops:Array Oper} {op:Oper} {a:Act} {w:World} {K:Act->World->Prop} {Q:Exit->Act->World->Prop} {E:Prop}
theorem zzX (hgd:op.guard=none) (s x:Operand) (ho:op.op=.call { callee:=.builtin .append,args:=#[s,x],argTypes:=#[28,28] }) (v:Value) (n:Nat) (l news:List Value) (hs:a.eval s=v) (hown:Lw w 27 4 v n l)
 (g2:Nat) (hm:news.length=4) (hx:a.eval x=.slice (some ⟨g2,0,none⟩) 1 1) (hX:w.rangeAt g2 0 news) (h1:∀ v ∈ news,v.oneCell'=true) (hk:n<=1000000)
 (h:∀ v' w',Lw w' 27 4 v' (n+1) (l++news)->w.grownBy w' v.ownBlock->(v'.ownBlock=v.ownBlock\/v'.ownBlock=some w.heap.size)->K (a.put op.dst v') w'):if Region.wanted op (yielded ops a.tmps)=true then Oper.wp Tryz.prog op a w K Q else E:=by
 have hw:Region.wanted op (yielded ops a.tmps)=true:=by simp [Region.wanted,hgd]
 rw[if_pos hw]
 exact zkU 28 27 4 32 Tryz.underlying28 zbO (by decide) (by decide) s x ho v n l news hs hown g2 hm hx hX h1 hk h
theorem zzW (hgd:op.guard=none) (s y:Operand) (ho:op.op=.call { callee:=.builtin .append,args:=#[s,y],argTypes:=#[28,28] }) (r T gs n:Nat) (pl:Value) (C:List Value) (h av:Value) (A:Option Addr) (cp:Nat) (ss:List Nat) (l nx:Nat) (an:List Value) (ls:List Ins) (ags:List Nat) (k0 w0:World) (x:Nat) (X4:List Value) (hx:wq x=X4) (hs:a.eval s=.slice A ss.length cp) (H:Rn k0 w0 w r T gs n pl C h av (.slice A ss.length cp) ss l nx an ls ags)
 (g2:Nat) (hy:a.eval y=.slice (some ⟨g2,0,none⟩) 1 1) (hX:w.rangeAt g2 0 X4) (hk:ss.length<=1000)
 (hh:∀ A' c' X6,X6.cell? ⟨r,52,none⟩=some (.slice A ss.length cp)->X6.frozen? ⟨r,52,none⟩=false->Hid (Row X6 r (rc T pl (.slice (some ⟨gs,0,none⟩) n n) C h (.slice A ss.length cp) l nx an) 79)->Hid (∀ Y,Gro (·=r) X6 Y->Row Y r (rc T pl (.slice (some ⟨gs,0,none⟩) n n) C h (.slice A' (ss.length+1) c') l nx an) 79->Rn k0 w0 Y r T gs n pl C h av (.slice A' (ss.length+1) c') (ss++[x]) l nx an ls ags)->K (a.put op.dst (.slice A' (ss.length+1) c')) X6):if Region.wanted op (yielded ops a.tmps)=true then Oper.wp Tryz.prog op a w K Q else E:=by
 subst hx
 refine zzX hgd s y ho (.slice A ss.length cp) ss.length (fw ss) (wq x) hs H.st g2 (zaV x) hy hX (zmL x) (by omega) ?_
 intro v' X6 q1 q2 q3
 obtain⟨A',c',rfl,_,_⟩:=Lw.form q1
 have hr6:=zeA H.row q2 (zeF (Lw.ne H.st H.row (by decide)))
 refine hh A' c' X6 (hr6.cell 52 _ (zbX H.clen 1)) (hr6.thaw 52) hr6 (fun Y k q=>Rn.stack H q2 k (q3.imp id (fun e=>⟨_,e,Nat.le_refl _⟩)) q ?_)
 rw[zsT,List.length_append,List.length_singleton]
 exact q1
end
theorem zcD (r T gs n:Nat) (pl:Value) (C:List Value) (h av stk:Value) (ss:List Nat) (l nx:Nat) (an:List Value) (ls:List Ins) (ags:List Nat) (x:Nat) (k0 w0 w:World) (H:Rn k0 w0 w r T gs n pl C h av stk ss l nx an ls ags) (hss:ss.length<=1000):Calls Tryz.prog 72 #[.pointer (some ⟨r,0,none⟩),.agg (wq x).toArray] w fun e w'=>e=.returned (.int .i64 0)/\∃ stk',Rn k0 w0 w' r T gs n pl C h av stk' (ss++[x]) l nx an ls ags:=by
 obtain⟨A,cp,hst,_,_⟩:=Lw.form H.st
 subst hst
 have HH:Hid (Rn k0 w0 w r T gs n pl C h av (.slice A ss.length cp) ss l nx an ls ags):=H
 have HSS:Hid (ss.length<=1000):=hss
 obtain⟨a0,ha0⟩:∃ a,a=((lim x 0:Nat):Int):=⟨_,rfl⟩
 obtain⟨a1,ha1⟩:∃ a,a=((lim x 1:Nat):Int):=⟨_,rfl⟩
 obtain⟨a2,ha2⟩:∃ a,a=((lim x 2:Nat):Int):=⟨_,rfl⟩
 obtain⟨a3,ha3⟩:∃ a,a=((lim x 3:Nat):Int):=⟨_,rfl⟩
 have hx:wq x=[.int .u64 a0,.int .u64 a1,.int .u64 a2,.int .u64 a3]:=by rw[zaQ,ha0,ha1,ha2,ha3]
 have HX:Hid (wq x=[.int .u64 a0,.int .u64 a1,.int .u64 a2,.int .u64 a3]):=hx
 rw[hx]
 clear H hss hx ha0 ha1 ha2 ha3
 go_enter Tryz.func72,Tryz.ntmps72
 go_upto_region 1 with (refine zaF 27 rfl (.tmp 1) rfl [.int .u64 a0,.int .u64 a1,.int .u64 a2,.int .u64 a3] rfl ?_;intro X q1 q2 q3;have R1:Hid (Row X w.heap.size [.int .u64 a0,.int .u64 a1,.int .u64 a2,.int .u64 a3] 27):=q1;have HR:Hid (Rn k0 w0 X r T gs n pl C h av (.slice A ss.length cp) ss l nx an ls ags):=HH.out.keep q2;clear q1 q2 q3;simp only[Act.put,jA,jB,jC])
 have c0:=R1.out.cell 0 _ rfl
 have c1:=R1.out.cell 1 _ rfl
 have c2:=R1.out.cell 2 _ rfl
 have c3:=R1.out.cell 3 _ rfl
 have cs:=HR.out.row.cell 52 _ (zbX HR.out.clen 1)
 have cs':X.cell? ⟨r,52,none⟩=some (.slice A ss.length cp):=cs
 clear cs
 obtain⟨b3,hb3⟩:∃ b,b=w.heap.size:=⟨_,rfl⟩
 rw[<-hb3] at R1 c0 c1 c2 c3
 rw[<-hb3]
 clear hb3
 have cs2:(X.alloc (Obj.cells #[Value.int .u64 a0,.int .u64 a1,.int .u64 a2,.int .u64 a3] 27)).cell? ⟨r,52,none⟩=some (.slice A ss.length cp):=(Row.alloc HR.out.row _).cell 52 _ (zbX HR.out.clen 1)
 have HM:Hid (∀ v ∈ [Value.int .u64 a0,.int .u64 a1,.int .u64 a2,.int .u64 a3],v.oneCell'=true):=by rw[<-HX.out];exact zmL x
 go_region_law (refine zzW rfl (.tmp 9) (.tmp 11) rfl r T gs n pl C h av A cp ss l nx an ls ags k0 w0 x [.int .u64 a0,.int .u64 a1,.int .u64 a2,.int .u64 a3] HX.out (by simp [Act.eval]) (HR.out.keep ((Below.refl X.heap.size X).drew.alloc (Nat.le_refl _) _)) _ (by simp [Act.eval]) (Row.all (Row.new' rfl rfl)) HSS.out ?_;intro A' c' X6 d1 d2 R6 F6)
 all_goals
  clear c0 c1 c2 c3 cs' cs2
  go_wp2
  go_ret
  refine⟨rfl,_,F6.out _ ((Gro.refl _ _).set r 52 _ rfl) ?_⟩
  have q:=R6.out.set 52 (.slice A' (ss.length+1) c')
  rw[zoX HR.out.clen] at q
  exact q
theorem zlY {P:Program} {ops:Array Oper} {o:Oper} {a:Act} {w:World} {K:Act->World->Prop} {Q:Exit->Act->World->Prop} {E:Prop} (hg:o.guard=none) (f:FuncId) (args:Array Value) (h:(execOp a.eval o).run P w=.ok (.enter f args) w)
 (hc:Calls P f args w fun e w'=>∃ v,e=.returned v/\K (a.put o.dst v) w'):if Region.wanted o (yielded ops a.tmps)=true then Oper.wp P o a w K Q else E:=by
 have hw:Region.wanted o (yielded ops a.tmps)=true:=by simp [Region.wanted,hg]
 rw[if_pos hw]
 unfold Oper.wp
 rw[h]
 exact hc.mono (fun e w' hk=>by obtain⟨v,he,hk⟩:=hk;subst he;exact hk)
theorem zdT {P:Program} {ops:Array Oper} {o:Oper} {a:Act} {w:World} {K:Act->World->Prop} {Q:Exit->Act->World->Prop} {E:Prop} (hg:o.guard=none) (f:FuncId) {xs:Array Operand} {ts:Array TypeId} (_ho:o.op=.call { callee:=.value (.func f),args:=xs,argTypes:=ts }) (args:Array Value) (h:(execOp a.eval o).run P w=.ok (.enter f args) w)
 (hc:Calls P f args w fun e w'=>∃ v,e=.returned v/\K (a.put o.dst v) w'):if Region.wanted o (yielded ops a.tmps)=true then Oper.wp P o a w K Q else E:=zlY hg f args h hc
section
variable {k0 w0 w w':World} {r T gs n:Nat} {pl:Value} {C:List Value} {h av stk:Value} {ss:List Nat} {l nx:Nat} {an:List Value} {ls:List Ins} {ags:List Nat}
theorem Rn.aside (H:Rn k0 w0 w r T gs n pl C h av stk ss l nx an ls ags) {b:Nat} {cs:List Value} (rb:Row w b cs 27) (hlo:w0.heap.size<=b) (h1:∀ g,stk.ownBlock=some g->g≠b) (h2:∀ g,av.ownBlock=some g->g≠b) (k:Gro (·=b) w w'):Rn k0 w0 w' r T gs n pl C h av stk ss l nx an ls ags:=
 ⟨k.row H.row (zaN H.row rb (by decide)),H.clen,H.alen,Lw.gro H.st k h1,k.row H.tab (zaN H.tab rb (by decide)),Lw.gro H.prg k (Lw.ne H.prg rb (by decide)),k.row H.sta (zaN H.sta rb (by decide)),H.cargs,Lw.gro H.arg k h2,H.apart,H.be.trans (k.to_below H.be.size (fun g e=>by rw[e];exact hlo)),H.rlo,H.slo,fun h1 h2 q=>k.row (H.kp h1 h2 q) (zaN (H.kp h1 h2 q) rb h2)⟩
theorem Rn.fresh (H:Rn k0 w0 w r T gs n pl C h av stk ss l nx an ls ags):(∀ g,stk.ownBlock=some g->g<w.heap.size)/\(∀ g,av.ownBlock=some g->g<w.heap.size):=⟨Lw.lt H.st,Lw.lt H.arg⟩
end
theorem gb_refl (w:World) (o:Option Nat):w.grownBy w o:=⟨rfl,rfl,rfl,Nat.le_refl _,fun _ _ _=>rfl⟩
theorem zgU:(Tryz.prog.info? 28).map (·.size)=some 1:=by kernel_rfl
theorem zdB (r T gs n:Nat) (pl:Value) (C:List Value) (h av stk:Value) (ss:List Nat) (l nx:Nat) (an:List Value) (ls:List Ins) (ags:List Nat) (x:Nat) (k0 w0 w:World) (H:Rn k0 w0 w r T gs n pl C h av stk (ss++[x]) l nx an ls ags) (hss:ss.length<=1000):Calls Tryz.prog 71 #[.pointer (some ⟨r,0,none⟩)] w fun e w'=>e=.returned (.agg (wq x).toArray)/\w.heap.size<=w'.heap.size/\(∀ {b:Nat} {cs:List Value} {t:TypeId},Row w b cs t->b≠r->Row w' b cs t)/\∃ stk',stk'.ownBlock=stk.ownBlock/\Rn k0 w0 w' r T gs n pl C h av stk' ss l nx an ls ags:=by
 obtain⟨g,cp,hst,hcp⟩:=Lw.open H.st (by rw[List.length_append];exact Nat.succ_pos _)
 subst hst
 obtain⟨k,hk⟩:∃ k,k=ss.length:=⟨_,rfl⟩
 have elen:(ss++[x]).length=k+1:=by rw[List.length_append,hk];rfl
 rw[elen] at H hcp
 have HH:Hid (Rn k0 w0 w r T gs n pl C h av (.slice (some ⟨g,0,none⟩) (k+1) cp) (ss++[x]) l nx an ls ags):=H
 have HK:Hid (k=ss.length):=hk
 have hk1:k<=1000:=by omega
 have HCP:Hid (k+1<=cp):=hcp
 obtain⟨L,hL⟩:∃ L,L=wq x:=⟨_,rfl⟩
 have HI:Hid ((Tryz.prog.info? 27).map (·.size)=some L.length):=by show _=_;rw[hL];exact zaU _
 have HN4:Hid (L.length=zW.length):=by show _=_;rw[hL];exact zaV _
 have HO:Hid (L.toArray.all (·.oneCell')=true):=by show _=_;rw[hL];exact zbH _
 have HLL:Hid (L=wq x):=hL
 rw[<-hL]
 rw[elen]
 clear H hss hk hL elen
 go_enter Tryz.func71,Tryz.ntmps71
 go_upto_region 1 with (refine zaK rfl rfl ?_;intro X1 (R1:Hid (Row X1 w.heap.size zW 27)) (B1:Hid (Below w.heap.size w X1)) (S1:Hid (X1.heap.size=w.heap.size+1));simp only[Act.put,jA,jB,jC])
 have HR1:Hid (Rn k0 w0 X1 r T gs n pl C h av (.slice (some ⟨g,0,none⟩) (k+1) cp) (ss++[x]) l nx an ls ags):=HH.out.keep B1.out
 have c52:X1.cell? ⟨r,52,none⟩=some (.slice (some ⟨g,0,none⟩) (k+1) cp):=HR1.out.row.cell 52 _ (zbX HR1.out.clen 1)
 have RGX:Hid (X1.rangeAt g (k*4) L):=by
  have:=HR1.out.st
  rw[show (ss++[x]).length=k+1 by rw[List.length_append,HK.out];rfl] at this
  rw[HLL.out]
  exact zjV (Lw.range this) k x (by rw[HK.out,List.getElem?_append_right (Nat.le_refl _),Nat.sub_self];rfl)
 have ek:((k+1:Nat):Int)-1=(k:Int):=by omega
 go_upto_region 3 with (first
  |(refine zaG rfl 27 (.tmp 16) rfl g (k*4) rfl L _ RGX.out Tryz.underlying27 rfl HI.out ?_;simp only[Act.put,jA,jB,jC])
  |(refine zaK rfl rfl ?_;intro X2 (R2:Hid (Row X2 X1.heap.size zW 27)) (B2:Hid (Below X1.heap.size X1 X2)) q3;clear q3;simp only[Act.put,jA,jB,jC])
  |(refine zaD rfl 27 (.tmp 4) (.tmp 17) rfl X1.heap.size L zW 27 rfl rfl R2.out HN4.out HI.out HO.out ?_;intro X3 (E3:Hid (X3=_)) (R3:Hid (Row X3 X1.heap.size L 27));simp only[Act.put]))
 have B3:Hid (Below X1.heap.size X1 X3):=by rw[E3.out];exact zaC B2.out (Nat.le_refl _) _
 have HR3:Hid (Rn k0 w0 X3 r T gs n pl C h av (.slice (some ⟨g,0,none⟩) (k+1) cp) (ss++[x]) l nx an ls ags):=HR1.out.keep B3.out
 have c53:X3.cell? ⟨r,52,none⟩=some (.slice (some ⟨g,0,none⟩) (k+1) cp):=HR3.out.row.cell 52 _ (zbX HR3.out.clen 1)
 have R13:Hid (Row X3 w.heap.size zW 27):=Row.below R1.out B3.out R1.out.lt
 obtain⟨b4,hb4⟩:∃ b,b=X1.heap.size:=⟨_,rfl⟩
 obtain⟨b2,hb2⟩:∃ b,b=w.heap.size:=⟨_,rfl⟩
 have HB4:Hid (b4=b2+1):=by show _=_;rw[hb4,hb2];exact S1.out
 have HB2:Hid (b2=w.heap.size):=hb2
 rw[<-hb4] at R3
 rw[<-hb2] at R13
 rw[<-hb4,<-hb2]
 have hkc:k<=cp:=by have:=HCP.out;omega
 have HL52:Hid (52<(rc T pl (.slice (some ⟨gs,0,none⟩) n n) C h (.slice (some ⟨g,0,none⟩) (k+1) cp) l nx an).length):=by show _<_;rw[ziE HR3.out.clen HR3.out.alen];decide
 clear c52 RGX E3 R2 B2 R1 hb4 hb2
 go_upto_region 4 with (first
  |(refine zbI rfl 28 (.tmp 26) (.tmp 24) rfl r 52 (.slice (some ⟨g,0,none⟩) k cp) (rc T pl (.slice (some ⟨gs,0,none⟩) n n) C h (.slice (some ⟨g,0,none⟩) (k+1) cp) l nx an) 79 rfl rfl rfl HR3.out.row HL52.out zgU rfl ?_;intro X4 (R4:Hid (Row X4 r ((rc T pl (.slice (some ⟨gs,0,none⟩) n n) C h (.slice (some ⟨g,0,none⟩) (k+1) cp) l nx an).set 52 (.slice (some ⟨g,0,none⟩) k cp)) 79)) (G4:Hid (Gro (·=r) X3 X4)) (S4:Hid (X4.heap.size=X3.heap.size));simp only[Act.put]))
 have HR4:Hid (Rn k0 w0 X4 r T gs n pl C h av (.slice (some ⟨g,0,none⟩) k cp) ss l nx an ls ags):=by
  refine Rn.stack HR3.out (gb_refl _ _) G4.out (.inl rfl) (by rw[<-zoX HR3.out.clen];exact R4.out) ?_
  have:=Lw.less (m:=k) (by have:=HR3.out.st;rw[show (ss++[x]).length=k+1 by rw[List.length_append,HK.out];rfl] at this;exact this) (Nat.le_succ _)
  rw[HK.out,fw_take] at this
  rw[HK.out]
  exact this
 have R34:Hid (Row X4 b4 L 27):=G4.out.row R3.out (zaN R3.out HR3.out.row (by decide))
 have R14:Hid (Row X4 b2 zW 27):=G4.out.row R13.out (zaN R13.out HR3.out.row (by decide))
 go_wp2_with (first
  |(refine zaG rfl 27 (.tmp 4) rfl b4 0 rfl L _ R34.out.all Tryz.underlying27 rfl HI.out ?_;simp only[Act.put,jA,jB,jC])
  |(refine zaD rfl 27 (.tmp 2) (.tmp 27) rfl b2 L zW 27 rfl rfl R14.out HN4.out HI.out HO.out ?_;intro X5 (E5:Hid (X5=_)) (R5:Hid (Row X5 b2 L 27));simp only[Act.put]))
 have G5:Gro (·=b2) X4 X5:=by rw[E5.out];exact zgG (Gro.refl _ _) b2 0 _ rfl
 have hf:=HH.out.fresh
 refine bodyPost_ret (zaW Tryz.results71 _ _ b2 27 L rfl R5.out Tryz.underlying27 HI.out) rfl ⟨rfl,?_,?_,.slice (some ⟨g,0,none⟩) k cp,rfl,HR4.out.aside R14.out ?_ ?_ ?_ G5⟩
 ·rw[E5.out,zdJ,S4.out]
  have:=B3.out.size
  have:=B1.out.size
  omega
 ·intro b cs t rr hb
  have h1:Row X3 b cs t:=Row.below (Row.below rr B1.out rr.lt) B3.out (by have:=rr.lt;have:=B1.out.size;omega)
  exact G5.row (G4.out.row h1 hb) (by have:=rr.lt;rw[HB2.out];omega)
 ·rw[HB2.out];exact HH.out.be.size
 ·intro q e;have:=hf.1 q e;rw[HB2.out];omega
 ·intro q e;have:=hf.2 q e;rw[HB2.out];omega
theorem zkE {P:Program} {fn:Func} {p q:Tmp} {ty ty2 e e2:TypeId} {k k2:Nat} (h:fn.results=#[.cell p ty,.cell q ty2]) (tmps:Array Value) (w:World) (g g2:Nat) (t t2:TypeId) (cs ds:List Value)
 (hp:tmps.getD p undef=.pointer (some ⟨g,0,none⟩)) (hq:tmps.getD q undef=.pointer (some ⟨g2,0,none⟩)) (hg:Row w g cs t) (hg2:Row w g2 ds t2) (hu:P.underlying ty=some (.array k e)) (hu2:P.underlying ty2=some (.array k2 e2)) (hi:(P.info? ty).map (·.size)=some cs.length) (hi2:(P.info? ty2).map (·.size)=some ds.length) :
 (results fn tmps).run P w=.ok (.tuple #[.agg cs.toArray,.agg ds.toArray]) w:=by
 have hp':tmps[p]?.getD undef=.pointer (some ⟨g,0,none⟩):=by simpa using hp
 have hq':tmps[q]?.getD undef=.pointer (some ⟨g2,0,none⟩):=by simpa using hq
 have hr:=run_loadVar_row (P:=P) w g t ty cs.toArray (0,0) (.array k e) hg hu rfl (by simp [hi])
 have hr2:=run_loadVar_row (P:=P) w g2 t2 ty2 ds.toArray (0,0) (.array k2 e2) hg2 hu2 rfl (by simp [hi2])
 simp [results,h,hp',hq',asAddr,hr,hr2]
theorem zbF (r T gs n:Nat) (pl:Value) (C:List Value) (h av stk:Value) (ss:List Nat) (l nx:Nat) (an:List Value) (ls:List Ins) (ags:List Nat) (x y:Nat) (k0 w0 w:World) (H:Rn k0 w0 w r T gs n pl C h av stk (ss++[x]++[y]) l nx an ls ags) (hss:ss.length<=900):Calls Tryz.prog 75 #[.pointer (some ⟨r,0,none⟩)] w fun e w'=>e=.returned (.tuple #[.agg (wq x).toArray,.agg (wq y).toArray])/\w.heap.size<=w'.heap.size/\(∀ {b:Nat} {cs:List Value} {t:TypeId},Row w b cs t->b≠r->Row w' b cs t)/\∃ stk',Rn k0 w0 w' r T gs n pl C h av stk' ss l nx an ls ags:=by
 have HH:Hid (Rn k0 w0 w r T gs n pl C h av stk (ss++[x]++[y]) l nx an ls ags):=H
 have HSS:Hid (ss.length<=900):=hss
 clear H hss
 obtain⟨x0,hx0⟩:∃ a,a=((lim x 0:Nat):Int):=⟨_,rfl⟩
 obtain⟨x1,hx1⟩:∃ a,a=((lim x 1:Nat):Int):=⟨_,rfl⟩
 obtain⟨x2,hx2⟩:∃ a,a=((lim x 2:Nat):Int):=⟨_,rfl⟩
 obtain⟨x3,hx3⟩:∃ a,a=((lim x 3:Nat):Int):=⟨_,rfl⟩
 obtain⟨y0,hy0⟩:∃ a,a=((lim y 0:Nat):Int):=⟨_,rfl⟩
 obtain⟨y1,hy1⟩:∃ a,a=((lim y 1:Nat):Int):=⟨_,rfl⟩
 obtain⟨y2,hy2⟩:∃ a,a=((lim y 2:Nat):Int):=⟨_,rfl⟩
 obtain⟨y3,hy3⟩:∃ a,a=((lim y 3:Nat):Int):=⟨_,rfl⟩
 have HX:Hid (wq x=[.int .u64 x0,.int .u64 x1,.int .u64 x2,.int .u64 x3]):=by show _=_;rw[zaQ,hx0,hx1,hx2,hx3]
 have HY:Hid (wq y=[.int .u64 y0,.int .u64 y1,.int .u64 y2,.int .u64 y3]):=by show _=_;rw[zaQ,hy0,hy1,hy2,hy3]
 clear hx0 hx1 hx2 hx3 hy0 hy1 hy2 hy3
 rw[HX.out,HY.out]
 go_enter Tryz.func75,Tryz.ntmps75
 go_upto_region 1 with (first
  |(refine zaK rfl rfl ?_;intro X1 (R1:Hid (Row X1 w.heap.size zW 27)) (B1:Hid (Below w.heap.size w X1)) (S1:Hid (X1.heap.size=w.heap.size+1));simp only[Act.put,jA,jB,jC])
  |(refine zaK rfl rfl ?_;intro X2 (R2:Hid (Row X2 X1.heap.size zW 27)) (B2:Hid (Below X1.heap.size X1 X2)) q3;clear q3;simp only[Act.put,jA,jB,jC]))
 obtain⟨b2,hb2⟩:∃ b,b=w.heap.size:=⟨_,rfl⟩
 obtain⟨b3,hb3⟩:∃ b,b=X1.heap.size:=⟨_,rfl⟩
 have HB2:Hid (b2=w.heap.size):=hb2
 have HB3:Hid (b3=b2+1):=by show _=_;rw[hb3,hb2];exact S1.out
 have R12:Hid (Row X2 b2 zW 27):=by rw[hb2];exact Row.below R1.out B2.out R1.out.lt
 have R22:Hid (Row X2 b3 zW 27):=by rw[hb3];exact R2.out
 have BX2:Hid (Below w.heap.size w X2):=B1.out.trans (B2.out.mono B1.out.size)
 rw[<-hb2,<-hb3]
 have HR2:Hid (Rn k0 w0 X2 r T gs n pl C h av stk (ss++[x]++[y]) l nx an ls ags):=HH.out.keep BX2.out
 have HNR:Hid (b2≠r/\b3≠r):=⟨zaN R12.out HR2.out.row (by decide),zaN R22.out HR2.out.row (by decide)⟩
 have HT1:Hid _:=zdB r T gs n pl C h av stk (ss++[x]) l nx an ls ags y k0 w0 X2 HR2.out (by rw[List.length_append,List.length_singleton];have:=HSS.out;omega)
 rw[HY.out] at HT1
 clear hb2 hb3 R1 B1 S1 R2 B2
 go_upto_region 2 with (first
  |(go_at_call 71;refine Calls.mono HT1.out ?_;rintro e X3 ⟨rfl,qs,qr,stk3,qo,qn⟩;have S3:Hid (X2.heap.size<=X3.heap.size):=qs;have K3:Hid (∀ {b:Nat} {cs:List Value} {t:TypeId},Row X2 b cs t->b≠r->Row X3 b cs t):=(fun {b cs t}=>qr);have O3:Hid (stk3.ownBlock=stk.ownBlock):=qo;have HR3:Hid (Rn k0 w0 X3 r T gs n pl C h av stk3 (ss++[x]) l nx an ls ags):=qn;have R13:Hid (Row X3 b2 zW 27):=qr R12.out HNR.out.1;have R23:Hid (Row X3 b3 zW 27):=qr R22.out HNR.out.2;clear qs qr qo qn HT1)
  |(refine zaD rfl 27 (.tmp 3) (.tmp 5) rfl b3 [.int .u64 y0,.int .u64 y1,.int .u64 y2,.int .u64 y3] zW 27 rfl rfl R23.out rfl zfB (by rw[<-HY.out];exact zbH y) ?_;intro X4 (E4:Hid (X4=_)) (R24:Hid (Row X4 b3 [.int .u64 y0,.int .u64 y1,.int .u64 y2,.int .u64 y3] 27));simp only[Act.put]))
 have G4:Hid (Gro (·=b3) X3 X4):=by rw[E4.out];exact zgG (Gro.refl _ _) b3 0 _ rfl
 have HFR:Hid ((∀ g,stk.ownBlock=some g->g<b2)/\∀ g,av.ownBlock=some g->g<b2):=by rw[HB2.out];exact HH.out.fresh
 have HR4:Hid (Rn k0 w0 X4 r T gs n pl C h av stk3 (ss++[x]) l nx an ls ags):=HR3.out.aside R23.out (by rw[HB3.out,HB2.out];have:=HH.out.be.size;omega) (fun g e=>by have:=HFR.out.1 g (by rw[<-O3.out];exact e);rw[HB3.out];omega) (fun g e=>by have:=HFR.out.2 g e;rw[HB3.out];omega) G4.out
 have R14:Hid (Row X4 b2 zW 27):=G4.out.row R13.out (by rw[HB3.out];omega)
 have HT2:Hid (∀ W,Rn k0 w0 W r T gs n pl C h av stk3 (ss++[x]) l nx an ls ags->Calls Tryz.prog 71 #[.pointer (some ⟨r,0,none⟩)] W fun e w'=>e=.returned (.agg (wq x).toArray)/\W.heap.size<=w'.heap.size/\(∀ {b:Nat} {cs:List Value} {t:TypeId},Row W b cs t->b≠r->Row w' b cs t)/\∃ stk',stk'.ownBlock=stk3.ownBlock/\Rn k0 w0 w' r T gs n pl C h av stk' ss l nx an ls ags):=fun W hW=>zdB r T gs n pl C h av stk3 ss l nx an ls ags x k0 w0 W hW (by have:=HSS.out;omega)
 rw[HX.out] at HT2
 have e0:=R24.out.cell 0 _ rfl
 have e1:=R24.out.cell 1 _ rfl
 have e2:=R24.out.cell 2 _ rfl
 have e3:=R24.out.cell 3 _ rfl
 have nb1:b3≠b2:=by rw[HB3.out];omega
 have nb2:b2≠b3:=by rw[HB3.out];omega
 clear E4 R23 R13 R12 R22 HR3
 go_region_law (refine zdT rfl 71 rfl #[.pointer (some ⟨r,0,none⟩)] (by go_simp) (Calls.mono (HT2.out _ (HR4.out.drewN 1)) ?_);rintro e X5 ⟨rfl,qs,qr,stk5,qo,qn⟩;refine⟨_,rfl,?_⟩;have S5:Hid (X4.heap.size<=X5.heap.size):=qs;have K5:Hid (∀ {b:Nat} {cs:List Value} {t:TypeId},Row X4 b cs t->b≠r->Row X5 b cs t):=(fun {b cs t} r=>qr r);have O5:Hid (stk5.ownBlock=stk3.ownBlock):=qo;have HR5:Hid (Rn k0 w0 X5 r T gs n pl C h av stk5 ss l nx an ls ags):=qn;have hr1:Row X5 b2 zW 27:=qr R14.out HNR.out.1;have hr2:Row X5 b3 [.int .u64 y0,.int .u64 y1,.int .u64 y2,.int .u64 y3] 27:=qr R24.out HNR.out.2;have R15:Hid (Row X5 b2 zW 27):=hr1;have R25:Hid (Row X5 b3 [.int .u64 y0,.int .u64 y1,.int .u64 y2,.int .u64 y3] 27):=hr2;have m0:=hr1.cell 0 _ rfl;have m1:=hr1.cell 1 _ rfl;have m2:=hr1.cell 2 _ rfl;have m3:=hr1.cell 3 _ rfl;have mf0:=hr1.thaw 0;have mf1:=hr1.thaw 1;have mf2:=hr1.thaw 2;have mf3:=hr1.thaw 3;have k0:=hr2.cell 0 _ rfl;have k1:=hr2.cell 1 _ rfl;have k2:=hr2.cell 2 _ rfl;have k3:=hr2.cell 3 _ rfl;have kf0:=hr2.thaw 0;have kf1:=hr2.thaw 1;have kf2:=hr2.thaw 2;have kf3:=hr2.thaw 3;clear qs qr qo qn hr1 hr2)
 all_goals
  have Rb2:=(((R15.out.set 0 (.int .u64 x0)).set 1 (.int .u64 x1)).set 2 (.int .u64 x2)).set 3 (.int .u64 x3)
  have Gb2:Gro (·=b2) X5 _:=((((Gro.refl (·=b2) X5).set b2 0 (.int .u64 x0) rfl).set b2 1 (.int .u64 x1) rfl).set b2 2 (.int .u64 x2) rfl).set b2 3 (.int .u64 x3) rfl
  have Rb3:=Gb2.row R25.out nb1
  have Gb3:Gro (·=b3) _ _:=((((Gro.refl (·=b3) ((((X5.setCell ⟨b2,0,none⟩ (.int .u64 x0)).setCell ⟨b2,1,none⟩ (.int .u64 x1)).setCell ⟨b2,2,none⟩ (.int .u64 x2)).setCell ⟨b2,3,none⟩ (.int .u64 x3))).set b3 0 (.int .u64 y0) rfl).set b3 1 (.int .u64 y1) rfl).set b3 2 (.int .u64 y2) rfl).set b3 3 (.int .u64 y3) rfl
  have Rb3':=(((Rb3.set 0 (.int .u64 y0)).set 1 (.int .u64 y1)).set 2 (.int .u64 y2)).set 3 (.int .u64 y3)
  have Rb2':=Gb3.row Rb2 nb2
  have lo2:w0.heap.size<=b2:=by rw[HB2.out];exact HH.out.be.size
  have f1:∀ g,stk5.ownBlock=some g->g<b2:=fun g e=>HFR.out.1 g (by rw[<-O3.out,<-O5.out];exact e)
  have RN1:=HR5.out.aside R15.out lo2 (fun g e=>Nat.ne_of_lt (f1 g e)) (fun g e=>Nat.ne_of_lt (HFR.out.2 g e)) Gb2
  have RN2:=RN1.aside Rb3 (by rw[HB3.out];omega) (fun g e=>by have:=f1 g e;rw[HB3.out];omega) (fun g e=>by have:=HFR.out.2 g e;rw[HB3.out];omega) Gb3
  have SS:=Gb3.size
  have SS2:=Gb2.size
  go_wp2
  refine bodyPost_ret (zkE Tryz.results75 _ _ b2 b3 27 27 [.int .u64 x0,.int .u64 x1,.int .u64 x2,.int .u64 x3] [.int .u64 y0,.int .u64 y1,.int .u64 y2,.int .u64 y3] rfl rfl Rb2' Rb3' Tryz.underlying27 Tryz.underlying27 zfB zfB) rfl ⟨rfl,?_,?_,stk5,RN2⟩
  ·have h1:=BX2.out.size
   have h2:=S3.out
   have h3:=G4.out.size
   have h4:=S5.out
   omega
  ·intro b cs t rr hb
   have hlt:=rr.lt
   have h1:=K3.out (Row.below rr BX2.out rr.lt) hb
   have h2:=K5.out (G4.out.row h1 (by rw[HB3.out,HB2.out];omega)) hb
   exact Gb3.row (Gb2.row h2 (by rw[HB2.out];omega)) (by rw[HB3.out,HB2.out];omega)
theorem zfP (r T gs n:Nat) (pl:Value) (C:List Value) (h av stk:Value) (ss:List Nat) (l nx:Nat) (an:List Value) (ls:List Ins) (ags:List Nat) (x:Nat) (k0 w0 w:World) (H:Rn k0 w0 w r T gs n pl C h av stk ss l nx an ls ags) (hss:ss.length<=1000):Calls Tryz.prog 73 #[.pointer (some ⟨r,0,none⟩),.agg (wq x).toArray,.int .i64 0] w fun e w'=>e=.returned (.int .i64 0)/\∃ stk',Rn k0 w0 w' r T gs n pl C h av stk' (ss++[x]) l nx an ls ags:=by
 obtain⟨L,hL⟩:∃ L,L=wq x:=⟨_,rfl⟩
 have HI:Hid ((Tryz.prog.info? 27).map (·.size)=some L.length):=by show _=_;rw[hL];exact zaU _
 have HLV:Hid (∀ W,Rn k0 w0 W r T gs n pl C h av stk ss l nx an ls ags->Calls Tryz.prog 72 #[.pointer (some ⟨r,0,none⟩),.agg L.toArray] W fun e w'=>e=.returned (.int .i64 0)/\∃ stk',Rn k0 w0 w' r T gs n pl C h av stk' (ss++[x]) l nx an ls ags):=fun W hW=>by rw[hL];exact zcD r T gs n pl C h av stk ss l nx an ls ags x k0 w0 W hW hss
 have HH:Hid (Rn k0 w0 w r T gs n pl C h av stk ss l nx an ls ags):=H
 rw[<-hL]
 clear H hss hL
 go_enter Tryz.func73,Tryz.ntmps73
 go_wp2_with (first
  |(refine zaF 27 rfl (.tmp 1) rfl L rfl ?_;intro X q1 q2 q3;have R1:Hid (Row X w.heap.size L 27):=q1;have HR:Hid (Rn k0 w0 X r T gs n pl C h av stk ss l nx an ls ags):=HH.out.keep q2;clear q1 q2 q3;simp only[Act.put,jA,jB,jC])
  |(refine zaG rfl 27 (.tmp 4) rfl w.heap.size 0 rfl L _ R1.out.all Tryz.underlying27 rfl HI.out ?_;simp only[Act.put,jA,jB,jC])
  |(go_at_call 72;refine Calls.mono (HLV.out X HR.out) ?_;rintro e Y ⟨rfl,stk',q⟩;have HQ:Hid (Rn k0 w0 Y r T gs n pl C h av stk' (ss++[x]) l nx an ls ags):=q;clear q))
 go_ret
 exact⟨rfl,_,HQ.out⟩
theorem ziY (r T gs n:Nat) (pl:Value) (C:List Value) (h av stk:Value) (ss:List Nat) (l nx:Nat) (an:List Value) (ls:List Ins) (ags:List Nat) (x:Nat) (E:Int) (hE:(E != 0)=true) (k0 w0 w:World) (H:Rn k0 w0 w r T gs n pl C h av stk ss l nx an ls ags):Calls Tryz.prog 73 #[.pointer (some ⟨r,0,none⟩),.agg (wq x).toArray,.int .i64 E] w fun e w'=>e=.returned (.int .i64 104)/\Rn k0 w0 w' r T gs n pl C h av stk ss l nx an ls ags:=by
 obtain⟨L,hL⟩:∃ L,L=wq x:=⟨_,rfl⟩
 have HH:Hid (Rn k0 w0 w r T gs n pl C h av stk ss l nx an ls ags):=H
 rw[<-hL]
 clear H hL
 go_enter Tryz.func73,Tryz.ntmps73
 go_wp2_with (refine zaF 27 rfl (.tmp 1) rfl L rfl ?_;intro X q1 q2 q3;have HR:Hid (Rn k0 w0 X r T gs n pl C h av stk ss l nx an ls ags):=HH.out.keep q2;clear q1 q2 q3;simp only[Act.put,jA,jB,jC])
 go_ret
 exact⟨rfl,HR.out⟩
theorem add_ok (r T gs n:Nat) (pl:Value) (C:List Value) (h av stk:Value) (ss:List Nat) (l nx:Nat) (an:List Value) (ls:List Ins) (ags:List Nat) (I:List Value) (x y:Nat) (hx:x<2 ^ 256) (hy:y<2 ^ 256) (h3:x+y<2 ^ 256) (k0 w0 w:World) (H:Rn k0 w0 w r T gs n pl C h av stk (ss++[x]++[y]) l nx an ls ags) (hss:ss.length<=900):Calls Tryz.prog 46 #[.pointer (some ⟨r,0,none⟩),.agg I.toArray] w fun e w'=>e=.returned (.int .i64 0)/\∃ stk',Rn k0 w0 w' r T gs n pl C h av stk' (ss++[x+y]) l nx an ls ags:=by
 obtain⟨LX,hLX⟩:∃ L,L=wq x:=⟨_,rfl⟩
 obtain⟨LY,hLY⟩:∃ L,L=wq y:=⟨_,rfl⟩
 obtain⟨LZ,hLZ⟩:∃ L,L=wq (x+y):=⟨_,rfl⟩
 have HTT:Hid (∀ W,Rn k0 w0 W r T gs n pl C h av stk (ss++[x]++[y]) l nx an ls ags->Calls Tryz.prog 75 #[.pointer (some ⟨r,0,none⟩)] W fun e w'=>e=.returned (.tuple #[.agg LX.toArray,.agg LY.toArray])/\W.heap.size<=w'.heap.size/\(∀ {b:Nat} {cs:List Value} {t:TypeId},Row W b cs t->b≠r->Row w' b cs t)/\∃ stk',Rn k0 w0 w' r T gs n pl C h av stk' ss l nx an ls ags):=fun W hW=>by rw[hLX,hLY];exact zbF r T gs n pl C h av stk ss l nx an ls ags x y k0 w0 W hW hss
 have HOP:Hid (∀ W,Calls Tryz.prog 74 #[.agg LX.toArray,.agg LY.toArray] W fun e w'=>e=.returned (.tuple #[.agg LZ.toArray,.int .i64 0])/\Below W.heap.size W w'):=fun W=>by
  rw[hLX,hLY,hLZ]
  have q:=zrE x y hx hy W
  unfold zvT zvS at q
  rw[if_pos h3,if_pos h3] at q
  exact q
 have HLR:Hid (∀ stk' W,Rn k0 w0 W r T gs n pl C h av stk' ss l nx an ls ags->Calls Tryz.prog 73 #[.pointer (some ⟨r,0,none⟩),.agg LZ.toArray,.int .i64 0] W fun e w'=>e=.returned (.int .i64 0)/\∃ stk'',Rn k0 w0 w' r T gs n pl C h av stk'' (ss++[x+y]) l nx an ls ags):=fun stk' W hW=>by rw[hLZ];exact zfP r T gs n pl C h av stk' ss l nx an ls ags _ k0 w0 W hW (by omega)
 have HH:Hid (Rn k0 w0 w r T gs n pl C h av stk (ss++[x]++[y]) l nx an ls ags):=H
 clear H hss hLX hLY hLZ hx hy h3
 go_enter Tryz.func46,Tryz.ntmps46
 go_wp2_with (first
  |(refine zaF 97 rfl (.tmp 1) rfl I rfl ?_;intro X1 q1 q2 q3;have HR:Hid (Rn k0 w0 X1 r T gs n pl C h av stk (ss++[x]++[y]) l nx an ls ags):=HH.out.keep q2;clear q1 q2 q3;simp only[Act.put,jA,jB,jC])
  |(go_at_call 75;refine Calls.mono (HTT.out X1 HR.out) ?_;rintro e X2 ⟨rfl,_,_,stk2,q⟩;have HR2:Hid (Rn k0 w0 X2 r T gs n pl C h av stk2 ss l nx an ls ags):=q;clear q)
  |(go_at_call 74;refine Calls.mono (HOP.out X2) ?_;rintro e X3 ⟨rfl,q⟩;have HR3:Hid (Rn k0 w0 X3 r T gs n pl C h av stk2 ss l nx an ls ags):=HR2.out.keep q;clear q)
  |(go_at_call 73;refine Calls.mono (HLR.out stk2 X3 HR3.out) ?_;rintro e X4 ⟨rfl,stk4,q⟩;have HR4:Hid (Rn k0 w0 X4 r T gs n pl C h av stk4 (ss++[x+y]) l nx an ls ags):=q;clear q))
 go_ret
 exact⟨rfl,_,HR4.out⟩
theorem zoG (r T gs n:Nat) (pl:Value) (C:List Value) (h av stk:Value) (ss:List Nat) (l nx:Nat) (an:List Value) (ls:List Ins) (ags:List Nat) (I:List Value) (x:Nat) (k0 w0 w:World) (H:Rn k0 w0 w r T gs n pl C h av stk (ss++[x]) l nx an ls ags) (hss:ss.length<=1000):Calls Tryz.prog 41 #[.pointer (some ⟨r,0,none⟩),.agg I.toArray] w fun e w'=>e=.returned (.int .i64 0)/\∃ stk',Rn k0 w0 w' r T gs n pl C h av stk' ss l nx (wq x) ls ags:=by
 obtain⟨L,hL⟩:∃ L,L=wq x:=⟨_,rfl⟩
 have HTK:Hid (∀ W,Rn k0 w0 W r T gs n pl C h av stk (ss++[x]) l nx an ls ags->Calls Tryz.prog 71 #[.pointer (some ⟨r,0,none⟩)] W fun e w'=>e=.returned (.agg L.toArray)/\W.heap.size<=w'.heap.size/\(∀ {b:Nat} {cs:List Value} {t:TypeId},Row W b cs t->b≠r->Row w' b cs t)/\∃ stk',stk'.ownBlock=stk.ownBlock/\Rn k0 w0 w' r T gs n pl C h av stk' ss l nx an ls ags):=fun W hW=>by rw[hL];exact zdB r T gs n pl C h av stk ss l nx an ls ags x k0 w0 W hW hss
 have HH:Hid (Rn k0 w0 w r T gs n pl C h av stk (ss++[x]) l nx an ls ags):=H
 have HI:Hid ((Tryz.prog.info? 27).map (·.size)=some L.toArray.size):=by show _=_;rw[hL,List.size_toArray];exact zaU _
 have HO:Hid (L.toArray.all (·.oneCell')=true):=by show _=_;rw[hL];exact zbH _
 have HL4:Hid (L.length=4):=by show _=_;rw[hL];exact zaV _
 rw[<-hL]
 clear H hss hL
 go_enter Tryz.func41,Tryz.ntmps41
 go_wp2_with (first
  |(refine zaF 97 rfl (.tmp 1) rfl I rfl ?_;intro X1 q1 q2 q3;have HR:Hid (Rn k0 w0 X1 r T gs n pl C h av stk (ss++[x]) l nx an ls ags):=HH.out.keep q2;clear q1 q2 q3;simp only[Act.put,jA,jB,jC])
  |(go_at_call 71;refine Calls.mono (HTK.out X1 HR.out) ?_;rintro e X2 ⟨rfl,_,_,stk2,_,q⟩;have HR2:Hid (Rn k0 w0 X2 r T gs n pl C h av stk2 ss l nx an ls ags):=q;clear q)
  |(refine wpList_store_mid rfl 27 (.tmp 9) (.tmp 7) rfl r 55 L.toArray rfl rfl (HR2.out.row.there 55 _ (by rw[List.size_toArray,HL4.out,ziE HR2.out.clen HR2.out.alen];decide)) HI.out HO.out ?_;obtain⟨Y,hY⟩:∃ Y,Y=X2.setCells r 55 L.toArray.toList:=⟨_,rfl⟩;rw[<-hY];have EY:Hid (Y=X2.setCells r 55 L):=hY;clear hY;simp only[Act.put]))
 go_ret
 refine⟨rfl,stk2,HR2.out.over (by rw[EY.out];exact zgG (Gro.refl _ _) r 55 _ rfl) HL4.out ?_⟩
 have q:=Row.setCells 55 L HR2.out.row (by rw[HL4.out,ziE HR2.out.clen HR2.out.alen];decide)
 rw[rc_ans HR2.out.clen HR2.out.alen L HL4.out,<-EY.out] at q
 exact q
theorem arg_in (r T gs n:Nat) (pl:Value) (C:List Value) (h av stk:Value) (ss:List Nat) (l nx:Nat) (an:List Value) (ls:List Ins) (ags:List Nat) (ci pi ai ni x:Nat) (hx:ags[ni]?=some x) (hl:ags.length<=8) (k0 w0 w:World) (H:Rn k0 w0 w r T gs n pl C h av stk ss l nx an ls ags) (hss:ss.length<=1000):Calls Tryz.prog 56 #[.pointer (some ⟨r,0,none⟩),.agg (ic ci pi ai ni).toArray] w fun e w'=>e=.returned (.int .i64 0)/\∃ stk',Rn k0 w0 w' r T gs n pl C h av stk' (ss++[x]) l nx an ls ags:=by
 have hni:ni<ags.length:=(List.getElem?_eq_some_iff.1 hx).1
 obtain⟨ga,ca,hav,hca⟩:=Lw.open H.arg (by omega)
 subst hav
 have HH:Hid (Rn k0 w0 w r T gs n pl C h (.slice (some ⟨ga,0,none⟩) ags.length ca) stk ss l nx an ls ags):=H
 obtain⟨L,hL⟩:∃ L,L=ic ci pi ai ni:=⟨_,rfl⟩
 have HIC:Hid (L=ic ci pi ai ni):=hL
 rw[<-hL]
 obtain⟨k,hk⟩:∃ k,k=ags.length:=⟨_,rfl⟩
 have HK:Hid (k=ags.length):=hk
 rw[<-hk] at hni hl
 obtain⟨x0,hx0⟩:∃ a,a=((lim x 0:Nat):Int):=⟨_,rfl⟩
 obtain⟨x1,hx1⟩:∃ a,a=((lim x 1:Nat):Int):=⟨_,rfl⟩
 obtain⟨x2,hx2⟩:∃ a,a=((lim x 2:Nat):Int):=⟨_,rfl⟩
 obtain⟨x3,hx3⟩:∃ a,a=((lim x 3:Nat):Int):=⟨_,rfl⟩
 have hX:wq x=[.int .u64 x0,.int .u64 x1,.int .u64 x2,.int .u64 x3]:=by rw[zaQ,hx0,hx1,hx2,hx3]
 have HXX:Hid (ags[ni]?=some x):=hx
 have HX:Hid (wq x=[.int .u64 x0,.int .u64 x1,.int .u64 x2,.int .u64 x3]):=hX
 have HLV:Hid (∀ W,Rn k0 w0 W r T gs n pl C h (.slice (some ⟨ga,0,none⟩) ags.length ca) stk ss l nx an ls ags->Calls Tryz.prog 72 #[.pointer (some ⟨r,0,none⟩),.agg #[.int .u64 x0,.int .u64 x1,.int .u64 x2,.int .u64 x3]] W fun e w'=>e=.returned (.int .i64 0)/\∃ stk',Rn k0 w0 w' r T gs n pl C h (.slice (some ⟨ga,0,none⟩) ags.length ca) stk' (ss++[x]) l nx an ls ags):=fun W hW=>by
  have q:=zcD r T gs n pl C h _ stk ss l nx an ls ags x k0 w0 W hW hss
  rw[hX] at q
  exact q
 clear H hss hL hx0 hx1 hx2 hx3 hX hx hk hca
 go_enter Tryz.func56,Tryz.ntmps56
 go_upto_region 1 with (refine zaF 97 rfl (.tmp 1) rfl L rfl ?_;intro X q1 q2 q3;have R1:Hid (Row X w.heap.size L 97):=q1;have HR:Hid (Rn k0 w0 X r T gs n pl C h (.slice (some ⟨ga,0,none⟩) ags.length ca) stk ss l nx an ls ags):=HH.out.keep q2;clear q1 q2 q3;simp only[Act.put,jA,jB,jC])
 have c6:X.cell? ⟨w.heap.size,6,none⟩=some (.int .i64 (ni:Int)):=R1.out.cell 6 _ (by rw[HIC.out];exact zsZ _ _ _ _)
 have c48:X.cell? ⟨r,48,none⟩=some (.slice (some ⟨ga,0,none⟩) k ca):=by
  rw[HK.out]
  exact HR.out.row.cell 48 _ ((zgZ HR.out.clen 45 (by decide)).trans HR.out.cargs)
 obtain⟨b3,hb3⟩:∃ b,b=w.heap.size:=⟨_,rfl⟩
 rw[<-hb3] at c6
 rw[<-hb3]
 have RG:X.rangeAt ga (ni*4) [.int .u64 x0,.int .u64 x1,.int .u64 x2,.int .u64 x3]:=by
  rw[<-HX.out]
  exact zjV (Lw.range HR.out.arg) ni x HXX.out
 have a0:X.cell? ⟨ga,ni*4,none⟩=some (.int .u64 x0):=RG 0 _ rfl
 have a1:X.cell? ⟨ga,ni*4+1,none⟩=some (.int .u64 x1):=RG 1 _ rfl
 have a2:X.cell? ⟨ga,ni*4+2,none⟩=some (.int .u64 x2):=RG 2 _ rfl
 have a3:X.cell? ⟨ga,ni*4+3,none⟩=some (.int .u64 x3):=RG 3 _ rfl
 clear hb3 RG R1 HIC
 go_quiet (fail)
 go_upto_region 3 with fail
 go_region_law (refine zdT rfl 72 rfl #[.pointer (some ⟨r,0,none⟩),.agg #[.int .u64 x0,.int .u64 x1,.int .u64 x2,.int .u64 x3]] (by go_simp) (Calls.mono (HLV.out _ (HR.out.drewN _)) ?_);rintro e Y ⟨rfl,stk',q⟩;refine⟨_,rfl,?_⟩;have HQ:Hid (Rn k0 w0 Y r T gs n pl C h (.slice (some ⟨ga,0,none⟩) ags.length ca) stk' (ss++[x]) l nx an ls ags):=q;clear q)
 all_goals
  clear a0 a1 a2 a3 c6 c48
  go_wp2
  go_ret
  exact⟨rfl,_,HQ.out⟩
theorem zaY (nm f:Value) (k g t lv:Nat) (hk2:((k:Int)==2)=false) (hk3:((k:Int)==3)=false) (I:List Value) (w:World):Calls Tryz.prog 91 #[.agg #[nm,.int .i64 (k:Int),.int .i64 (g:Int),.int .i64 (t:Int),.int .i64 (lv:Int),f],.agg I.toArray] w fun e w'=>e=.returned (.tuple #[.int .i64 (t:Int),.int .i64 (lv:Int)])/\Below w.heap.size w w':=by
 go_enter Tryz.func91,Tryz.ntmps91
 go_upto_region 1 with (first
  |(refine zaF 95 rfl (.tmp 0) rfl [nm,.int .i64 (k:Int),.int .i64 (g:Int),.int .i64 (t:Int),.int .i64 (lv:Int),f] rfl ?_;intro X (R1:Hid (Row X w.heap.size [nm,.int .i64 (k:Int),.int .i64 (g:Int),.int .i64 (t:Int),.int .i64 (lv:Int),f] 95)) (B1:Hid (Below w.heap.size w X)) q3;clear q3;simp only[Act.put,jA,jB,jC])
  |(refine zaF 97 rfl (.tmp 1) rfl I rfl ?_;intro Y q1 (B2:Hid (Below X.heap.size X Y)) q3;clear q1 q3;simp only[Act.put,jA,jB,jC]))
 have R2:=Row.below R1.out B2.out R1.out.lt
 have c1:=R2.cell 1 _ rfl
 have c3:=R2.cell 3 _ rfl
 have c4:=R2.cell 4 _ rfl
 have BB:Hid (Below w.heap.size w Y):=B1.out.trans (B2.out.mono B1.out.size)
 clear R2 R1 B1 B2
 go_upto_region 5 with fail
 go_quiet (fail)
 go_wp2
 go_ret2
 exact⟨rfl,zbE BB.out _⟩
end Go.Proofs.YtedeobikfddmgaaGreat
