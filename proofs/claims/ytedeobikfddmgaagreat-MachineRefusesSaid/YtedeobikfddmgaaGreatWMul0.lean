import Derived.Test.YtedeobikfddmgaaGreatMkAA
import Derived.Deep.Quiet
import Derived.StillTail
import Derived.Deep.MidRow
import Derived.Test.YtedeobikfddmgaaGreatWNum
import Derived.Test.YtedeobikfddmgaaGreatMem
import Derived.Test.YtedeobikfddmgaaGreatProg
import Derived.Laws.Externs
import Derived.BigQuiet
import Derived.Shelf.Spec.BitsCarry
import Derived.Shelf.Bits.Mul64
set_option maxRecDepth 100000
set_option maxHeartbeats 16000000
namespace Go.Proofs.YtedeobikfddmgaaGreat
open Go
section
variable {P:Program} {ops:Array Oper} {md:Region.Mode} {C:World->Prop}
def anyHead (P:Program) (md:Region.Mode) (ops:Array Oper) (C:World->Prop) (n:Nat) (L:Array Bool->Act->Prop):Nat->Array Bool->Act->Prop
 |0,listed,a=>L listed a
 |f+1,listed,a=>
  Region.ready md ops listed ≠ []/\∀ i ∈ Region.ready md ops listed,i<n/\qOp P ops C i (anyHead P md ops C n L f (listed.setIfInBounds i true)) a
variable {Q:Act->Prop} {rest:List Oper} {o:Oper} {a:Act}
end
open Go.RowKit Wd
theorem zkY (x y c:Nat) (hc:c<=1) (w:World):(callFunc 92 #[.int .u64 (x:Int),.int .u64 (y:Int),.int .u64 (c:Int)]).run Tryz.prog w =
 .ok (.value (.tuple #[.int .u64 (((x+y+c) % 18446744073709551616:Nat):Int),.int .u64 (((x+y+c) / 18446744073709551616:Nat):Int)])) w:=by
 rw[run_callFunc_extern Tryz.func92 (by kernel_rfl) (by kernel_rfl) (by kernel_rfl) (e:=add64Entry) (by kernel_rfl),run_add64 x y c (by omega) (by omega) (by omega) (by omega)]
 simp only[Result.andThen]
 congr 5 <;> omega
theorem ziK (x y c:Nat) (hc:c<=1) (w:World):(callFunc 93 #[.int .u64 (x:Int),.int .u64 (y:Int),.int .u64 (c:Int)]).run Tryz.prog w =
 .ok (.value (.tuple #[.int .u64 (((x+18446744073709551616-y-c) % 18446744073709551616:Nat):Int),.int .u64 ((if x<y+c then 1 else 0:Nat):Int)])) w:=by
 rw[run_callFunc_extern Tryz.func93 (by kernel_rfl) (by kernel_rfl) (by kernel_rfl) (e:=sub64Entry) (by kernel_rfl),run_sub64 x y c hc]
 rfl
theorem zaM {P:Program} {fn:Func} {p q:Tmp} {ty:TypeId} {n:Nat} {e:TypeId} (h:fn.results=#[.cell p ty,.tmp q]) (tmps:Array Value) (w:World) (g:Nat) (t:TypeId) (cs:List Value) (v:Value)
 (hp:tmps.getD p undef=.pointer (some ⟨g,0,none⟩)) (hv:tmps.getD q undef=v) (hg:Row w g cs t) (hu:P.underlying ty=some (.array n e)) (hi:(P.info? ty).map (·.size)=some n) (hl:cs.length=n) :
 (results fn tmps).run P w=.ok (.tuple #[.agg cs.toArray,v]) w:=by
 have hp':tmps[p]?.getD undef=.pointer (some ⟨g,0,none⟩):=by simpa using hp
 have hv':tmps[q]?.getD undef=v:=by simpa using hv
 have hr:=run_loadVar_row (P:=P) w g t ty cs.toArray (0,0) (.array n e) hg hu rfl (by simp [hi,hl])
 simp [results,h,hp',hv',asAddr,hr]
theorem zaL:(Tryz.prog.info? 27).map (·.size)=some 4:=by kernel_rfl
theorem zrE (a b:Nat) (ha:a<2 ^ 256) (hb:b<2 ^ 256) (w:World) :
 Calls Tryz.prog 74 #[.agg (vQ (dgs a 4)).toArray,.agg (vQ (dgs b 4)).toArray] w fun e w'=>e=.returned (.tuple #[.agg (vQ (dgs (zvT a b) 4)).toArray,.int .i64 (zvS a b)])/\Below w.heap.size w w':=by
 have HC4:Hid (car a b 4=if a+b<2 ^ 256 then 0 else 1):=zwK a b ha hb
 clear ha hb
 go_enter Tryz.func74,Tryz.ntmps74
 go_wp2
 go_loopw [7,8,9] (fun c _ i wr=>∃ t:Nat,t<=4/\i=.int .i64 (t:Int)/\c=.int .u64 ((car a b t:Nat):Int)/\Below w.heap.size w wr/\Row wr w.heap.size (vQ (dgs a 4)) 27/\Row wr (w.heap.size+1) (vQ (dgs b 4)) 27/\Row wr (w.heap.size+1+1) (vQ (List.replicate 4 0)) 27/\Row wr (w.heap.size+1+1+1) (vQ (dgs (a+b) t++List.replicate (4-t) 0)) 27)
  (fun _ _ i _=>4-(intOf i).toNat)
 case atStart=>
  refine⟨0,by omega,rfl,by rw[zwL];rfl,((((Below.refl _ _).alloc (Nat.le_refl _) _).alloc (by simp) _).alloc (by simp;omega) _).alloc (by simp;omega) _,?_,?_,?_,?_⟩
  ·exact (((Row.new' rfl rfl).alloc _).alloc _).alloc _
  ·exact ((Row.new' (by simp) rfl).alloc _).alloc _
  ·exact (Row.new' (by simp) rfl).alloc _
  ·exact Row.new' (by simp) rfl
 case round=>
  obtain⟨t,ht,rfl,rfl,hb,h0,h1,h2,h3⟩:=hrel
  by_cases hlt:t<4
  ·have g0:=h0.cell t _ (zbW _ t (by rw[zaH];exact hlt))
   have g1:=h1.cell t _ (zbW _ t (by rw[zaH];exact hlt))
   have g3:=h3.cell t _ (zbW _ t (by rw[List.length_append,zaH,List.length_replicate];omega))
   have gf:=h3.thaw t
   rw[zbP _ _ _ hlt] at g0 g1
   have hst:=zvW a b t hlt
   have hc1:=car_le a b t
   have HST:Hid _:=hst
   generalize (dgs (a+b) t++List.replicate (4-t) 0).getD t 0=z at g3
   generalize lim a t=x at g0 HST
   generalize lim b t=y at g1 HST
   generalize car a b t=cc at hc1 HST
   have H64:Hid _:=zkY x y cc hc1
   clear hst
   go_wp2
   have h64:=H64.out
   go_region
   have e1:((x:Int)+(y:Int)+(cc:Int)) % 18446744073709551616=((lim (a+b) t:Nat):Int):=by rw[<-HST.out.1];omega
   have e2:((x:Int)+(y:Int)+(cc:Int)) / 18446744073709551616=((car a b (t+1):Nat):Int):=by rw[<-HST.out.2];omega
   clear h64 H64
   go_wp2
   refine⟨⟨t+1,hlt,by go_num,by rw[e2],?_,?_,?_,?_,?_⟩,by simp [intOf];omega⟩
   ·exact Below.drew (Below.setCell hb (by simp;omega) _)
   ·exact Row.drew (Row.set_other h0 _ _ _ (by omega))
   ·exact Row.drew (Row.set_other h1 _ _ _ (by omega))
   ·exact Row.drew (Row.set_other h2 _ _ _ (by omega))
   ·have:=h3.set t (.int .u64 ((lim (a+b) t:Nat):Int))
    rw[zeY,fill _ t 4 _ (zaH _ _) hlt,<-zhN] at this
    exact Row.drew this
  ·have e4:(t:Int)=4:=by omega
   have et:t=4:=by omega
   rw[et] at h3
   rw[show car a b t=car a b 4 by rw[et],e4]
   clear e4 et ht hlt
   have h3':Row wr (w.heap.size+1+1+1) (vQ (dgs (a+b) 4)) 27:=by simpa using h3
   clear h3
   by_cases hc:a+b<2 ^ 256
   ·have hcar:car a b 4=0:=by rw[HC4.out,if_pos hc]
    rw[hcar]
    have HR:Hid (a+b<2 ^ 256):=hc
    obtain⟨cs,hcs⟩:∃ cs,cs=vQ (dgs (a+b) 4):=⟨_,rfl⟩
    have hl:cs.length=4:=by rw[hcs,zaJ,zaH]
    rw[<-hcs] at h3'
    have i4:(Tryz.prog.info? 27).map (·.size)=some cs.length:=by rw[zaL,hl]
    have i4':(Tryz.prog.info? 27).map (·.size)=some cs.toArray.size:=by rw[zaL];simp [hl]
    have hone:=all_oneCell_toArray (show ∀ v ∈ cs,v.oneCell'=true by rw[hcs];exact zbR _)
    have T:=h2.there 0 cs.toArray.size (by simp [hl,zaJ])
    have fin:=h2.over (vs:=cs) (by rw[hl];rfl)
    have hbf:=zaC hb (b:=w.heap.size+1+1) (o:=0) (by omega) cs
    have HE:Hid (vQ (dgs (a+b) 4)=cs):=hcs.symm
    have HL:Hid (cs.length=4):=hl
    clear hcs hl hb hc HC4 hcar
    go_wp2_with (first
     |(refine wpList_load_mid rfl 27 (.tmp 6) rfl (w.heap.size+1+1+1) 0 rfl cs _ h3'.all Tryz.underlying27 rfl i4 ?_;simp only[Act.put,jA,jB,jC])
     |(refine wpList_store_mid rfl 27 (.tmp 4) (.tmp 29) rfl (w.heap.size+1+1) 0 cs.toArray rfl rfl T i4' hone ?_;simp only[Act.put]))
    exact bodyPost_ret (zaM Tryz.results74 _ _ (w.heap.size+1+1) 27 cs (.int .i64 0) rfl rfl fin Tryz.underlying27 zaL HL.out) rfl ⟨by rw[show zvT a b=a+b from if_pos HR.out,show zvS a b=0 from if_pos HR.out,HE.out],hbf⟩
   ·have hcar:car a b 4=1:=by rw[HC4.out,if_neg hc]
    rw[hcar]
    have HR:Hid (¬ a+b<2 ^ 256):=hc
    have T:=h2.there 0 (vQ (List.replicate 4 0)).toArray.size (Nat.le_refl 4)
    have fin:=h2.over (vs:=vQ (List.replicate 4 0)) rfl
    have hbf:=zaC hb (b:=w.heap.size+1+1) (o:=0) (by omega) (vQ (List.replicate 4 0))
    clear hb hc HC4 hcar
    go_wp2_with (refine wpList_store_mid rfl 27 (.tmp 4) (.tmp 28) rfl (w.heap.size+1+1) 0 (vQ (List.replicate 4 0)).toArray rfl rfl T zaL (all_oneCell_toArray (zbR _)) ?_;simp only[Act.put])
    exact bodyPost_ret (zaM Tryz.results74 _ _ (w.heap.size+1+1) 27 (vQ (List.replicate 4 0)) (.int .i64 22) rfl rfl fin Tryz.underlying27 zaL rfl) rfl ⟨by rw[show zvT a b=0 from if_neg HR.out,show zvS a b=22 from if_neg HR.out,zcP],hbf⟩
theorem zuU (a b:Nat) (ha:a<2 ^ 256) (hb:b<2 ^ 256) (w:World) :
 Calls Tryz.prog 76 #[.agg (vQ (dgs a 4)).toArray,.agg (vQ (dgs b 4)).toArray] w fun e w'=>e=.returned (.tuple #[.agg (vQ (dgs (zvV a b) 4)).toArray,.int .i64 (zuT a b)])/\Below w.heap.size w w':=by
 have HC4:Hid (bor a b 4=if a<b then 1 else 0):=zwB a b ha hb
 obtain⟨D,hD⟩:∃ D,D=a+2 ^ 256-b % 2 ^ 256:=⟨_,rfl⟩
 have HD:Hid (¬ a<b->dgs D 4=dgs (a-b) 4):=by
  intro h
  rw[hD,Nat.mod_eq_of_lt hb,show a+2 ^ 256-b=(a-b)+2 ^ 256 by omega,dgs_top]
 have HSTEP:Hid (∀ t,t<4->(lim a t+18446744073709551616-lim b t-bor a b t) % 18446744073709551616=lim D t/\(if lim a t<lim b t+bor a b t then 1 else 0)=bor a b (t+1)):=by rw[hD];exact fun t ht=>zzZ a b t ht
 clear hD
 clear ha hb
 go_enter Tryz.func76,Tryz.ntmps76
 go_wp2
 go_loopw [7,8,9] (fun c _ i wr=>∃ t:Nat,t<=4/\i=.int .i64 (t:Int)/\c=.int .u64 ((bor a b t:Nat):Int)/\Below w.heap.size w wr/\Row wr w.heap.size (vQ (dgs a 4)) 27/\Row wr (w.heap.size+1) (vQ (dgs b 4)) 27/\Row wr (w.heap.size+1+1) (vQ (List.replicate 4 0)) 27/\Row wr (w.heap.size+1+1+1) (vQ (dgs D t++List.replicate (4-t) 0)) 27)
  (fun _ _ i _=>4-(intOf i).toNat)
 case atStart=>
  refine⟨0,by omega,rfl,by rw[zwC];rfl,((((Below.refl _ _).alloc (Nat.le_refl _) _).alloc (by simp) _).alloc (by simp;omega) _).alloc (by simp;omega) _,?_,?_,?_,?_⟩
  ·exact (((Row.new' rfl rfl).alloc _).alloc _).alloc _
  ·exact ((Row.new' (by simp) rfl).alloc _).alloc _
  ·exact (Row.new' (by simp) rfl).alloc _
  ·exact Row.new' (by simp) rfl
 case round=>
  obtain⟨t,ht,rfl,rfl,hb,h0,h1,h2,h3⟩:=hrel
  by_cases hlt:t<4
  ·have g0:=h0.cell t _ (zbW _ t (by rw[zaH];exact hlt))
   have g1:=h1.cell t _ (zbW _ t (by rw[zaH];exact hlt))
   have g3:=h3.cell t _ (zbW _ t (by rw[List.length_append,zaH,List.length_replicate];omega))
   have gf:=h3.thaw t
   rw[zbP _ _ _ hlt] at g0 g1
   have hst:=HSTEP.out t hlt
   have hc1:=bor_le a b t
   have HST:Hid _:=hst
   generalize (dgs D t++List.replicate (4-t) 0).getD t 0=z at g3
   generalize lim a t=x at g0 HST
   generalize lim b t=y at g1 HST
   generalize bor a b t=cc at hc1 HST
   have H64:Hid (∀ w,(callFunc 93 #[.int .u64 (x:Int),.int .u64 (y:Int),.int .u64 (cc:Int)]).run Tryz.prog w=.ok (.value (.tuple #[.int .u64 ((lim D t:Nat):Int),.int .u64 ((bor a b (t+1):Nat):Int)])) w):=fun w=>by rw[ziK x y cc hc1,HST.out.1,HST.out.2]
   clear hst
   go_wp2
   have h64:=H64.out
   go_region
   clear h64 H64
   go_wp2
   refine⟨⟨t+1,hlt,by go_num,rfl,?_,?_,?_,?_,?_⟩,by simp [intOf];omega⟩
   ·exact Below.drew (Below.setCell hb (by simp;omega) _)
   ·exact Row.drew (Row.set_other h0 _ _ _ (by omega))
   ·exact Row.drew (Row.set_other h1 _ _ _ (by omega))
   ·exact Row.drew (Row.set_other h2 _ _ _ (by omega))
   ·have:=h3.set t (.int .u64 ((lim D t:Nat):Int))
    rw[zeY,fill _ t 4 _ (zaH _ _) hlt,<-zhN] at this
    exact Row.drew this
  ·have e4:(t:Int)=4:=by omega
   have et:t=4:=by omega
   rw[et] at h3
   rw[show bor a b t=bor a b 4 by rw[et],e4]
   clear e4 et ht hlt
   have h3':Row wr (w.heap.size+1+1+1) (vQ (dgs D 4)) 27:=by simpa using h3
   clear h3
   by_cases hc:¬ a<b
   ·have hbor:bor a b 4=0:=by rw[HC4.out,if_neg hc]
    rw[hbor]
    have HR:Hid (¬ a<b):=hc
    obtain⟨cs,hcs⟩:∃ cs,cs=vQ (dgs D 4):=⟨_,rfl⟩
    have hl:cs.length=4:=by rw[hcs,zaJ,zaH]
    rw[<-hcs] at h3'
    have i4:(Tryz.prog.info? 27).map (·.size)=some cs.length:=by rw[zaL,hl]
    have i4':(Tryz.prog.info? 27).map (·.size)=some cs.toArray.size:=by rw[zaL];simp [hl]
    have hone:=all_oneCell_toArray (show ∀ v ∈ cs,v.oneCell'=true by rw[hcs];exact zbR _)
    have T:=h2.there 0 cs.toArray.size (by simp [hl,zaJ])
    have fin:=h2.over (vs:=cs) (by rw[hl];rfl)
    have hbf:=zaC hb (b:=w.heap.size+1+1) (o:=0) (by omega) cs
    have HE:Hid (vQ (dgs D 4)=cs):=hcs.symm
    have HL:Hid (cs.length=4):=hl
    clear hcs hl hb hc HC4 hbor
    go_wp2_with (first
     |(refine wpList_load_mid rfl 27 (.tmp 6) rfl (w.heap.size+1+1+1) 0 rfl cs _ h3'.all Tryz.underlying27 rfl i4 ?_;simp only[Act.put,jA,jB,jC])
     |(refine wpList_store_mid rfl 27 (.tmp 4) (.tmp 29) rfl (w.heap.size+1+1) 0 cs.toArray rfl rfl T i4' hone ?_;simp only[Act.put]))
    exact bodyPost_ret (zaM Tryz.results76 _ _ (w.heap.size+1+1) 27 cs (.int .i64 0) rfl rfl fin Tryz.underlying27 zaL HL.out) rfl ⟨by rw[show zvV a b=a-b from if_neg HR.out,show zuT a b=0 from if_neg HR.out,<-HD.out HR.out,HE.out],hbf⟩
   ·have hbor:bor a b 4=1:=by rw[HC4.out,if_pos (by omega)]
    rw[hbor]
    have HR:Hid (a<b):=by show a<b;omega
    have T:=h2.there 0 (vQ (List.replicate 4 0)).toArray.size (Nat.le_refl 4)
    have fin:=h2.over (vs:=vQ (List.replicate 4 0)) rfl
    have hbf:=zaC hb (b:=w.heap.size+1+1) (o:=0) (by omega) (vQ (List.replicate 4 0))
    clear hb hc HC4 hbor
    go_wp2_with (refine wpList_store_mid rfl 27 (.tmp 4) (.tmp 28) rfl (w.heap.size+1+1) 0 (vQ (List.replicate 4 0)).toArray rfl rfl T zaL (all_oneCell_toArray (zbR _)) ?_;simp only[Act.put])
    exact bodyPost_ret (zaM Tryz.results76 _ _ (w.heap.size+1+1) 27 (vQ (List.replicate 4 0)) (.int .i64 23) rfl rfl fin Tryz.underlying27 zaL rfl) rfl ⟨by rw[show zvV a b=0 from if_pos HR.out,show zuT a b=23 from if_pos HR.out,zcP],hbf⟩
theorem ztL (x y:Nat) (hx:x<18446744073709551616) (hy:y<18446744073709551616) (w:World) :
 Calls Tryz.prog 109 #[.int .u64 (x:Int),.int .u64 (y:Int)] w fun e w'=>e=.returned (.tuple #[.int .u64 ((x*y / 18446744073709551616:Nat):Int),.int .u64 ((x*y % 18446744073709551616:Nat):Int)])/\w'=w:=by
 obtain⟨d1,d2,d3,top⟩:=Lib.mul64_hi x y hx hy
 have q1:=Lib.half_mul_le (a:=x / 4294967296) (b:=y / 4294967296) (by omega) (by omega)
 have q2:=Lib.half_mul_le (a:=x / 4294967296) (b:=y % 4294967296) (by omega) (by omega)
 have q3:=Lib.half_mul_le (a:=x % 4294967296) (b:=y / 4294967296) (by omega) (by omega)
 have r1:x / 4294967296*(y / 4294967296)<18446744073709551616:=by omega
 have r2:x / 4294967296*(y % 4294967296)<18446744073709551616:=by omega
 have r3:x % 4294967296*(y / 4294967296)<18446744073709551616:=by omega
 have s1:x / 4294967296*(y / 4294967296)+(x / 4294967296*(y % 4294967296)+x % 4294967296*(y % 4294967296) / 4294967296) / 4294967296<18446744073709551616:=by omega
 have s2:x / 4294967296*(y / 4294967296)+(x / 4294967296*(y % 4294967296)+x % 4294967296*(y % 4294967296) / 4294967296) / 4294967296+((x / 4294967296*(y % 4294967296)+x % 4294967296*(y % 4294967296) / 4294967296) % 4294967296+x % 4294967296*(y / 4294967296)) / 4294967296<18446744073709551616:=by omega
 go_enter Tryz.func109,Tryz.ntmps109
 go_wp2
 simp only[Mul64.maskN x hx,Mul64.maskN y hy,Mul64.divN,Mul64.mulN,Mul64.addN,Mul64.wrapN _ d1,Mul64.wrapN _ r2,Mul64.wrapN _ d2,Mul64.maskN _ d2,Mul64.wrapN _ r3,Mul64.wrapN _ d3,Mul64.wrapN _ r1,Mul64.wrapN _ s1,Mul64.wrapN _ s2,Mul64.wrapM (x*y)]
 rw[top]
 go_ret2
 exact⟨rfl,rfl⟩
theorem zjE (x y:Nat) (w:World):(callFunc 92 #[.int .u64 (x:Int),.int .u64 (y:Int),.int .u64 0]).run Tryz.prog w =
 .ok (.value (.tuple #[.int .u64 (((x+y) % 18446744073709551616:Nat):Int),.int .u64 (((x+y) / 18446744073709551616:Nat):Int)])) w:=zkY x y 0 (by omega) w
theorem ztJ (x y c:Nat) (hx:x<18446744073709551616) (hy:y<18446744073709551616) (hc:c<18446744073709551616) :
 (x*y+c) / 18446744073709551616<18446744073709551616/\x*y / 18446744073709551616+(x*y % 18446744073709551616+c) / 18446744073709551616=(x*y+c) / 18446744073709551616/\(x*y % 18446744073709551616+c) % 18446744073709551616=(x*y+c) % 18446744073709551616:=by
 have h:x*y<=18446744073709551615*18446744073709551615:=Nat.mul_le_mul (by omega) (by omega)
 generalize x*y=m at *
 omega
theorem zjJ (x y c:Nat) (hx:x<18446744073709551616) (hy:y<18446744073709551616) (hc:c<18446744073709551616) (w:World) :
 Calls Tryz.prog 102 #[.int .u64 (x:Int),.int .u64 (y:Int),.int .u64 (c:Int)] w fun e w'=>e=.returned (.tuple #[.int .u64 (((x*y+c) / 18446744073709551616:Nat):Int),.int .u64 (((x*y+c) % 18446744073709551616:Nat):Int)])/\w'=w:=by
 obtain⟨b1,b2,b3⟩:=ztJ x y c hx hy hc
 have HM:Hid (∀ w,_):=ztL x y hx hy
 have H64:Hid (∀ w,_):=zjE (x*y % 18446744073709551616) c
 rw[b3] at H64
 obtain⟨hi,hhi⟩:∃ hi,hi=x*y / 18446744073709551616:=⟨_,rfl⟩
 obtain⟨lo,hlo⟩:∃ lo,lo=x*y % 18446744073709551616:=⟨_,rfl⟩
 obtain⟨ov,hov⟩:∃ ov,ov=(x*y % 18446744073709551616+c) / 18446744073709551616:=⟨_,rfl⟩
 obtain⟨rh,hrh⟩:∃ rh,rh=(x*y+c) / 18446744073709551616:=⟨_,rfl⟩
 obtain⟨rl,hrl⟩:∃ rl,rl=(x*y+c) % 18446744073709551616:=⟨_,rfl⟩
 rw[<-hhi,<-hlo] at HM
 rw[<-hlo] at hov
 rw[<-hlo,<-hov,<-hrl] at H64
 rw[<-hhi,<-hlo,<-hov,<-hrh] at b2
 rw[<-hrh] at b1
 rw[<-hrh,<-hrl]
 clear hhi hlo hov hrh hrl b3 hx hy hc
 go_enter Tryz.func102,Tryz.ntmps102
 have h64:=H64.out
 go_wp2_with (go_at_call 109;refine (HM.out w).mono ?_;rintro e w ⟨rfl,rfl⟩)
 go_ret2
 exact⟨by simp;omega,rfl⟩
end Go.Proofs.YtedeobikfddmgaaGreat
