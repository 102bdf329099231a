import Derived.Test.YtedeobikfddmgaaGreatMkAA
import Derived.Test.YtedeobikfddmgaaGreatMkZb
set_option maxRecDepth 100000
set_option maxHeartbeats 16000000
namespace Go.Proofs.YtedeobikfddmgaaGreat
open Go Go.RowKit
open Sha
open Wd
theorem zxZ (k:IntKind) (x:Int) (cells:Array Value) (hn:cells.size=1):Instr.fill (fun i=>some (i*1,1)) cells [(0,.int k x)]=some #[.int k x]:=by
 obtain⟨r,hr,hsz,hk⟩:=Great.fill_dense (s:=1) (by decide) [.int k x] 0 cells (fun v hv=>by obtain rfl:=List.mem_singleton.1 hv;rfl) (by simp;omega)
 have hr':Instr.fill (fun i=>some (i*1,1)) cells [(0,.int k x)]=some r:=hr
 rw[hr']
 congr 1
 apply Array.ext_getElem?
 intro j
 rw[hk j]
 by_cases hlt:j<1
 ·obtain rfl:j=0:=by omega
  rfl
 ·rw[if_neg (by simp;omega),Array.getElem?_eq_none (by omega),Array.getElem?_eq_none (by simp;omega)]
theorem zgI:∃ ie z,Tryz.prog.info? 3=some ie/\ie.zero=some z/\ie.size=1/\ie.bytes=8/\z.cells.size=1:=by
 have i1:(Tryz.prog.info? 3).map (fun i=>(i.zero,i.size,i.bytes))=some (some (.int .i64 0),1,8):=by kernel_rfl
 cases hi:Tryz.prog.info? 3 with
 |none=>rw[hi] at i1;cases i1
 |some ie=>
  rw[hi] at i1
  simp only[Option.map_some,Option.some.injEq,Prod.mk.injEq] at i1
  exact⟨ie,_,rfl,i1.1,i1.2.1,i1.2.2,rfl⟩
section
variable {ops:Array Oper} {rest:List Oper} {op:Oper} {a:Act} {w:World} {Q:Exit->Act->World->Prop}
theorem ziS (hgd:op.guard=none) (x:Operand) (ho:op.op=.buildSlice 52 1 #[(0,x)]) (y:Int) (hx:a.eval x=.int .i64 y)
 (h:∀ X,Row X w.heap.size [.int .i64 y] 3->Below w.heap.size w X->X.heap.size=w.heap.size+1->wpList Tryz.prog ops Q rest (a.put op.dst (.slice (some ⟨w.heap.size,0,none⟩) 1 1)) X):wpList Tryz.prog ops Q (op :: rest) a w:=by
 obtain⟨ie,z,h1,h2,h3,_,h4⟩:=zgI
 refine wpList_buildSlice hgd 52 3 1 _ ho #[.int .i64 y] ie z Tryz.underlying52 h1 h2 (by rw[h3];omega) (by rw[h3];omega) ?_ (h _ (Row.new' rfl rfl) ((Below.refl _ _).alloc (Nat.le_refl _) _) (by simp))
 rw[show (Array.map (fun (p:Nat × Operand)=>match p with|(i,x)=>(i,a.eval x)) #[(0,x)]).toList=[(0,a.eval x)] by simp,hx,h3]
 exact zxZ _ _ _ (by simp)
end
theorem sz_none {d:List (BitVec 8)} {p:Nat} (h:ri (d.drop p)=none):sz d p=0:=by unfold sz;rw[h]
theorem sz_some {d:List (BitVec 8)} {p c a m s:Nat} (h:ri (d.drop p)=some (c,a,m,s)):sz d p=s:=by unfold sz;rw[h]
theorem vI_app (l:List Nat) (p:Nat):vI (l++[p])=vI l++[.int .i64 (p:Int)]:=by unfold vI;rw[List.map_append];rfl
theorem zqT (g o n cap:Nat) (d:List (BitVec 8)) (hd:d.length=n) (h1:n<=1024) (w:World) (hr:w.rangeAt g o (vB d)):Calls Tryz.prog 29 #[.slice (some ⟨g,o,none⟩) n cap] w fun e w'=>((∃ ls v,pg d (n+1) 0=some ls/\ls.length<=n/\e=.returned (.tuple #[v,.bool true])/\Lw w' 3 1 v ls.length (vI (ls.map (·.p))))\/(pg d (n+1) 0=none/\e=.returned (.tuple #[.slice none 0 0,.bool false])))/\Below w.heap.size w w':=by
 have HR:Hid (w.rangeAt g o (vB d)):=hr
 have HDL:Hid (d.length=n):=hd
 clear hr hd
 go_enter Tryz.func29,Tryz.ntmps29
 go_wp2_with fail
 go_loopw [4,5] (fun v4 v5 wr=>∃ (p f:Nat) (ls:List Ins) (v:Value),p<=n/\v=v4/\v5=.int .i64 (p:Int)/\Hid (Lw wr 3 1 v ls.length (vI (ls.map (·.p))))/\Hid (Below w.heap.size w wr)/\Hid (∀ g,v.ownBlock=some g->w.heap.size<=g)/\Hid (ls.length<=p)/\Hid (n<=p+f/\pg d (n+1) 0=(pg d (f+1) p).map (ls++·))) (fun _ v5 _=>n-(intOf v5).toNat)
 case atStart=>exact⟨0,n,[],_,Nat.zero_le _,rfl,rfl,Lw.nil _ _ _,Below.refl _ _,(fun g e=>by cases e),Nat.le_refl _,by show _/\_;exact⟨by omega,by simp⟩⟩
 case round=>
  obtain⟨p,f,ls,v,hpn,hv4,rfl,HL,HB,HO,HLP,HPG⟩:=hrel
  subst hv4
  by_cases hlt:p<n
  ·have HSZ:Hid _:=zhP g o n cap p d HDL.out hlt h1 wr (zaS HR.out HB.out)
   obtain⟨f',rfl⟩:∃ f',f=f'+1:=⟨f-1,by have:=HPG.out.1;omega⟩
   cases hri:ri (d.drop p) with
   |none=>
    have HNO:Hid (pg d (n+1) 0=none):=by
     show _=_
     rw[HPG.out.2,zfT (by rw[HDL.out];exact hlt) hri]
     rfl
    rw[sz_none hri] at HSZ
    clear hri HPG
    go_wp2_with (go_at_call 11;refine Calls.mono HSZ.out ?_;rintro e X1 ⟨rfl,rfl⟩)
    go_ret2
    exact⟨.inr ⟨HNO.out,rfl⟩,HB.out⟩
   |some y=>
    obtain⟨c,a,m,z⟩:=y
    have hz:=zfW hri
    have hzn:p+z<=n:=by have h1:=hz.2.2.2;rw[List.length_drop,HDL.out] at h1;omega
    have hz1:1<=z:=hz.2.1
    have ez0:((z:Int)==0)=false:=by simp;omega
    have hz257:z<=257:=hz.2.2.1
    have HPG2:Hid (n<=p+z+f'/\pg d (n+1) 0=(pg d (f'+1) (p+z)).map ((ls++[⟨c,p,a,m⟩])++·)):=by
     refine⟨by have:=HPG.out.1;omega,?_⟩
     rw[HPG.out.2,zfU (by rw[HDL.out];exact hlt) hri,Option.map_map]
     congr 1
     funext r
     simp
    have HLP2:Hid ((ls++[(⟨c,p,a,m⟩:Ins)]).length<=p+z):=by show _<=_;rw[List.length_append,List.length_singleton];have:=HLP.out;omega
    have HLM:Hid (ls.length<=1000000):=by show _<=_;have:=HLP.out;omega
    rw[sz_some hri] at HSZ
    clear hri HPG hz
    go_upto_region 8 with (first
     |(go_at_call 11;refine Calls.mono HSZ.out ?_;rintro e X1 ⟨rfl,rfl⟩)
     |(refine ziS rfl (.tmp 17) rfl (p:Int) rfl ?_;intro X2 q1 q2 q3;have R2:Hid (Row X2 X1.heap.size [.int .i64 (p:Int)] 3):=q1;have B2:Hid (Below w.heap.size w X2):=HB.out.trans (q2.mono HB.out.size);have L2:Hid (Lw X2 3 1 v ls.length (vI (ls.map (·.p)))):=Lw.be HL.out q2;clear q1 q2 q3;simp only[Act.put,jA,jB,jC])
     |(refine zdU 52 3 1 8 Tryz.underlying52 zgI (by decide) (by decide) rfl (.tmp 16) (.tmp 18) rfl v ls.length (vI (ls.map (·.p))) [.int .i64 (p:Int)] rfl L2.out X1.heap.size rfl rfl R2.out.all (fun u hu=>by obtain rfl:=List.mem_singleton.1 hu;rfl) HLM.out ?_;intro v' X3 q1 q2 q3;have L3:Hid (Lw X3 3 1 v' (ls.length+1) (vI (ls.map (·.p))++[.int .i64 (p:Int)])):=q1;have B3:Hid (Below w.heap.size w X3):=zdW B2.out q2 HO.out;have O3:Hid (v'.ownBlock=v.ownBlock\/v'.ownBlock=some X2.heap.size):=q3;clear q1 q2 q3;simp only[Act.put,jA,jB,jC]))
    have L4:Hid (Lw X3 3 1 v' (ls++[(⟨c,p,a,m⟩:Ins)]).length (vI ((ls++[(⟨c,p,a,m⟩:Ins)]).map (·.p)))):=by
     rw[List.length_append,List.length_singleton,List.map_append,List.map_singleton,vI_app]
     exact L3.out
    have O4:Hid (∀ g,v'.ownBlock=some g->w.heap.size<=g):=fun g e=>by
     rcases O3.out with h|h
     ·exact HO.out g (by rw[<-h];exact e)
     ·rw[h] at e;cases e;exact B2.out.size
    clear L3 O3 L2 R2 B2 HL HO
    go_wp2
    exact⟨⟨p+z,f',_,_,hzn,rfl,by go_num,L4,B3,O4,HLP2,HPG2⟩,by simp [intOf];omega⟩
  ·have epn:p=n:=by omega
   have HPS:Hid (pg d (n+1) 0=some ls):=by
    show _=_
    rw[HPG.out.2,zjL (by rw[HDL.out];omega)]
    simp
   have HLN:Hid (ls.length<=n):=by rw[<-epn];exact HLP.out
   have e4:(p:Int)=(n:Int):=by omega
   rw[e4]
   clear e4 epn hlt hpn HPG HLP
   go_wp2
   go_ret2
   exact⟨.inl ⟨ls,_,HPS.out,HLN.out,rfl,HL.out⟩,HB.out⟩
theorem zrJ (g cap:Nat) (xs:List Nat) (x:Nat) (hl:xs.length<=1024) (w:World) (hr:w.rangeAt g 0 (vI xs)):Calls Tryz.prog 30 #[.slice (some ⟨g,0,none⟩) xs.length cap,.int .i64 (x:Int)] w fun e w'=>e=.returned (.bool (xs.any (·==x)))/\w'=w:=by
 have HR:Hid (w.rangeAt g 0 (vI xs)):=hr
 obtain⟨n,hn⟩:∃ n,n=xs.length:=⟨_,rfl⟩
 have HN:Hid (n=xs.length):=hn
 rw[<-hn] at hl ⊢
 clear hr hn
 go_enter Tryz.func30,Tryz.ntmps30
 go_wp2_with fail
 go_loopw [5] (fun v wr=>∃ t:Nat,t<=n/\v=.int .i64 (t:Int)/\wr=w/\Hid ((xs.take t).any (·==x)=false)) (fun v _=>n-(intOf v).toNat)
 case atStart=>exact⟨0,Nat.zero_le _,rfl,rfl,by show _=_;simp⟩
 case round=>
  obtain⟨t,ht,rfl,hw,HT⟩:=hrel
  subst hw
  by_cases hlt:t<n
  ·obtain⟨y,hy⟩:∃ y,xs[t]?=some y:=⟨_,List.getElem?_eq_getElem (by rw[<-HN.out];exact hlt)⟩
   have c0:wr.cell? ⟨g,t,none⟩=some (.int .i64 (y:Int)):=by
    have:=HR.out t (.int .i64 (y:Int)) (by unfold vI;rw[List.getElem?_map,hy];rfl)
    rwa [Nat.zero_add] at this
   by_cases hyx:y=x
   ·have HA:Hid (xs.any (·==x)=true):=List.any_eq_true.2 ⟨y,List.mem_of_getElem? hy,by simp [hyx]⟩
    subst hyx
    clear hy
    go_wp2
    go_ret
    exact⟨by rw[HA.out];rfl,rfl⟩
   ·have HA:Hid ((xs.take (t+1)).any (·==x)=false):=by
     show _=_
     rw[List.take_add_one,hy,List.any_append,HT.out]
     simp [hyx]
    have ex:((y:Int)==(x:Int))=false:=by simp;omega
    clear hy hyx HT
    go_wp2
    exact⟨⟨t+1,hlt,by go_num,by first|rfl|trivial,HA⟩,by simp [intOf];omega⟩
  ·have et:t=n:=by omega
   have HA:Hid (xs.any (·==x)=false):=by
    have:=HT.out
    rwa [et,HN.out,List.take_length] at this
   have e4:(t:Int)=(n:Int):=by omega
   rw[e4]
   clear e4 et ht hlt HT
   go_wp2
   go_ret
   exact⟨by rw[HA.out];rfl,rfl⟩
theorem zgY (g o n cap p y z:Nat) (hp:p+2<n) (hn:n<=1024) (hy:y<256) (hz:z<256) (w:World) (c1:w.cell? ⟨g,o+(p+1),none⟩=some (.int .u8 (y:Int))) (c2:w.cell? ⟨g,o+(p+2),none⟩=some (.int .u8 (z:Int))):Calls Tryz.prog 19 #[.slice (some ⟨g,o,none⟩) n cap,.int .i64 (p:Int)] w fun e w'=>e=.returned (.int .i64 ((y*256+z:Nat):Int))/\Below w.heap.size w w':=by
 go_enter Tryz.func19,Tryz.ntmps19
 go_wp2_with fail
 go_quiet (fail)
 go_wp2
 go_ret
 exact⟨by go_num,⟨rfl,rfl,rfl,Nat.le_refl _,fun _ _=>rfl⟩⟩
end Go.Proofs.YtedeobikfddmgaaGreat
