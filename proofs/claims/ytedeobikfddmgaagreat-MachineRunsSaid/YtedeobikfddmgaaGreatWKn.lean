import Derived.Test.YtedeobikfddmgaaGreatMkAA
import Derived.Test.YtedeobikfddmgaaGreatWNum
import Derived.Lib.ItoaNum
import Derived.Test.YtedeobikfddmgaaGreatWDivU
import Derived.Test.YtedeobikfddmgaaGreatWEq
import Derived.Test.YtedeobikfddmgaaGreatWDvM
import Derived.Test.YtedeobikfddmgaaGreatWDvN
import Derived.Test.YtedeobikfddmgaaGreatWHalf
import Derived.Test.YtedeobikfddmgaaGreatWLen
import Derived.Test.YtedeobikfddmgaaGreatWInv
import Derived.Deep.RegionLaw
import Derived.Deep.LoopGhost
import Derived.WalkMore
import Derived.BigQuiet
import Derived.Test.YtedeobikfddmgaaGreatWMul
import Derived.Test.YtedeobikfddmgaaGreatWParse
import Derived.Shelf.Strconv.Itoa1
import Derived.Shelf.LaysM
import Derived.Shelf.Strconv.Itoa2
import Derived.Test.YtedeobikfddmgaaGreatProg
import Derived.Test.YtedeobikfddmgaaGreatMem
import Derived.Lib.ItoaMem
import Derived.Lib.AppendIntMem
import Derived.Lib.Hide
import Derived.BigCall
import Derived.BigGuard
import Derived.Test.YtedeobikfddmgaaGreatWCmp
import Derived.BigFrame
set_option maxRecDepth 100000
set_option maxHeartbeats 16000000
namespace Go.Proofs.YtedeobikfddmgaaGreat
open Go
namespace Wd
open Go.Lib (decDigits nDigits dg)
def lw (a t:Nat):Nat:=a / 2 ^ (64*t) % 10000000000000000000
def padk (k v:Nat):List UInt8:=(List.range k).map fun t=>dg v (k-1-t)
end Wd
open Go.RowKit Wd
theorem zqG (lo y:Nat) (hl:lo<18446744073709551616) (hy:y<18446744073709551616) (h0:0<y) (w:World) :
 Calls Tryz.prog 111 #[.int .u64 0,.int .u64 (lo:Int),.int .u64 (y:Int)] w fun e w'=>e=.returned (.tuple #[.int .u64 ((lo / y:Nat):Int),.int .u64 ((lo % y:Nat):Int)])/\w'=w.drew:=by
 go_enter Tryz.func111,Tryz.ntmps111
 go_wp2
 go_region
 go_wp2
 go_ret2
 refine⟨?_,rfl⟩
 rw[show (lo:Int) / (y:Int)=((lo / y:Nat):Int) by simp,zpT _ (Nat.lt_of_le_of_lt (Nat.div_le_self _ _) hl),show (lo:Int) % (y:Int)=((lo % y:Nat):Int) by simp]
 rfl
theorem zqF (hi lo y s B Y L H QQ RR v1 v0 n1 n0 q r m:Nat) (hh0:0<hi) (hh:hi<y) (_hl:lo<18446744073709551616) (_hy:y<18446744073709551616) (s1:s<=63)
 (HL:Hid (∀ w,Calls Tryz.prog 104 #[.int .u64 (y:Int)] w fun e w'=>e=.returned (.int .i64 (s:Int))/\w'=w))
 (eB:IntKind.u64.wrap ((hi:Int)*2 ^ s)=(B:Int)) (eY:IntKind.u64.wrap ((y:Int)*2 ^ s)=(Y:Int)) (eL:IntKind.u64.wrap ((lo:Int)*2 ^ s)=(L:Int))
 (eO:bits .or .u64 (B:Int) ((lo:Int) / 2 ^ (64-s))=(H:Int)) (hHY:H<Y) (hY:Y<18446744073709551616) (_hL:L<18446744073709551616)
 (eA:bits .and .u64 (Y:Int) 4294967295=(v0:Int)) (eD:(Y:Int) / 4294967296=(v1:Int)) (eA':bits .and .u64 (L:Int) 4294967295=(n0:Int)) (eD':(L:Int) / 4294967296=(n1:Int))
 (b1:2147483648<=v1) (b1':v1<4294967296) (b0:v0<4294967296) (c1:n1<4294967296) (c0:n0<4294967296)
 (HG:Hid (Gs H n1 Y v1 v0 q r))
 (eQ:IntKind.u64.wrap ((H:Int) / (v1:Int))=(q:Int)) (eM:IntKind.u64.wrap ((q:Int)*(v1:Int))=(m:Int)) (hm:m<=H) (eR:(H:Int)-(m:Int)=(r:Int))
 (D U a1 a2 a3 q0 m0 r0:Nat) (HD:Hid (D=dgt H n1 Y)) (hU:U<Y) (_k1:a1<18446744073709551616) (_k2:a2<18446744073709551616) (_k3:a3<18446744073709551616)
 (g1:IntKind.u64.wrap ((H:Int)*4294967296)=(a1:Int)) (g2:IntKind.u64.wrap ((a1:Int)+(n1:Int))=(a2:Int)) (g3:IntKind.u64.wrap ((D:Int)*(Y:Int))=(a3:Int)) (g4:IntKind.u64.wrap ((a2:Int)-(a3:Int))=(U:Int))
 (HG0:Hid (Gs U n0 Y v1 v0 q0 r0))
 (eQ0:IntKind.u64.wrap ((U:Int) / (v1:Int))=(q0:Int)) (eM0:IntKind.u64.wrap ((q0:Int)*(v1:Int))=(m0:Int)) (hm0:m0<=U) (eR0:(U:Int)-(m0:Int)=(r0:Int))
 (E F o1 o2 o3:Nat) (HE:Hid (E=dgt U n0 Y)) (hF:F<Y) (_k1':o1<18446744073709551616) (_k2':o2<18446744073709551616) (_k3':o3<18446744073709551616)
 (i1:IntKind.u64.wrap ((U:Int)*4294967296)=(o1:Int)) (i2:IntKind.u64.wrap ((o1:Int)+(n0:Int))=(o2:Int)) (i3:IntKind.u64.wrap ((E:Int)*(Y:Int))=(o3:Int)) (i4:IntKind.u64.wrap ((o2:Int)-(o3:Int))=(F:Int))
 (hD:D<4294967296) (hE:E<4294967296) (HQ:Hid (D*4294967296+E=QQ)) (HR:Hid (F / 2 ^ s=RR)) (w:World) :
 Calls Tryz.prog 111 #[.int .u64 (hi:Int),.int .u64 (lo:Int),.int .u64 (y:Int)] w fun e w'=>e=.returned (.tuple #[.int .u64 (QQ:Int),.int .u64 (RR:Int)])/\w'=w:=by
 go_enter Tryz.func111,Tryz.ntmps111
 go_wp2_with (go_at_call 104;refine (HL.out w).mono ?_;rintro e w ⟨rfl,rfl⟩)
 obtain⟨T,hT⟩:∃ T:Nat,T=4294967296:=⟨_,rfl⟩
 have HT:Hid (T=4294967296):=hT
 clear hT
 go_loopw [15,16] (fun qv rv wr=>∃ q r:Nat,qv=.int .u64 (q:Int)/\rv=.int .u64 (r:Int)/\Gs H n1 Y v1 v0 q r/\wr=w) (fun _ rv _=>T-(intOf rv).toNat)
 case atStart=>exact⟨q,r,rfl,rfl,HG.out,rfl⟩
 case round=>
  clear HG eQ eM hm eR
  obtain⟨qq,rr,rfl,rfl,hg,rfl⟩:=hrel
  have hr:=hg.lt
  have hqU:qq<=18446744073709551615:=by
   have h1:=hg.sum
   have h2:qq*1<=qq*v1:=Nat.mul_le_mul_left _ (by omega)
   omega
  by_cases hbig:4294967296<=qq
  ·have hp:=hg.great c1 hHY (Or.inl hbig)
   obtain⟨p,hpe⟩:∃ p,p+1=qq:=⟨qq-1,by omega⟩
   have eP:(qq:Int)-1=(p:Int):=by omega
   have hlt:¬ ((qq:Int)<4294967296):=by omega
   have hge:(4294967296:Int)<=(qq:Int):=by omega
   have hdg:decide ((4294967296:Int)<=(qq:Int))=true:=decide_eq_true hge
   by_cases hst:rr+v1<4294967296
   ·have hn:=hg.less c1 hHY (Or.inl hbig) hst
    rw[show qq-1=p by omega] at hn
    have HN:Hid _:=hn
    have hs:(rr:Int)+(v1:Int)<4294967296:=by omega
    have hs':¬ ((4294967296:Int)<=(rr:Int)+(v1:Int)):=by omega
    have hds:decide ((4294967296:Int)<=(rr:Int)+(v1:Int))=false:=decide_eq_false hs'
    clear hp hn hg hpe hbig hst
    go_wp2
    refine⟨⟨p,rr+v1,rfl,by go_num,HN.out,trivial⟩,?_⟩
    have:=HT.out
    simp [intOf]
    omega
   ·have hn:=hg.stop b0 c1 hHY (Or.inl hbig) (by omega)
    have:D=p:=by rw[HD.out];omega
    subst this
    have hs:¬ ((rr:Int)+(v1:Int)<4294967296):=by omega
    have hs':(4294967296:Int)<=(rr:Int)+(v1:Int):=by omega
    have hds:decide ((4294967296:Int)<=(rr:Int)+(v1:Int))=true:=decide_eq_true hs'
    clear hp hn hg hpe hbig hst
    go_wp2
    go_loopw [16,18] (fun rv qv w2=>∃ q r:Nat,qv=.int .u64 (q:Int)/\rv=.int .u64 (r:Int)/\Gs U n0 Y v1 v0 q r/\w2=wr) (fun rv _ _=>T-(intOf rv).toNat)
    case atStart=>exact⟨q0,r0,rfl,rfl,HG0.out,rfl⟩
    case round=>
     clear HG0 eQ0 eM0 hm0 eR0
     obtain⟨qq,rr,rfl,rfl,hg,rfl⟩:=hrel
     have hr:=hg.lt
     have hqU:qq<=18446744073709551615:=by
      have h1:=hg.sum
      have h2:qq*1<=qq*v1:=Nat.mul_le_mul_left _ (by omega)
      omega
     by_cases hbig:4294967296<=qq
     ·have hp:=hg.great c0 hU (Or.inl hbig)
      obtain⟨p,hpe⟩:∃ p,p+1=qq:=⟨qq-1,by omega⟩
      have eP:(qq:Int)-1=(p:Int):=by omega
      have hlt:¬ ((qq:Int)<4294967296):=by omega
      have hge:(4294967296:Int)<=(qq:Int):=by omega
      have hdg:decide ((4294967296:Int)<=(qq:Int))=true:=decide_eq_true hge
      by_cases hst:rr+v1<4294967296
      ·have hn:=hg.less c0 hU (Or.inl hbig) hst
       rw[show qq-1=p by omega] at hn
       have HN:Hid _:=hn
       have hs:(rr:Int)+(v1:Int)<4294967296:=by omega
       have hs':¬ ((4294967296:Int)<=(rr:Int)+(v1:Int)):=by omega
       have hds:decide ((4294967296:Int)<=(rr:Int)+(v1:Int))=false:=decide_eq_false hs'
       clear hp hn hg hpe hbig hst
       go_wp2
       refine⟨⟨p,rr+v1,rfl,by go_num,HN.out,trivial⟩,?_⟩
       have:=HT.out
       simp [intOf]
       omega
      ·have hn:=hg.stop b0 c0 hU (Or.inl hbig) (by omega)
       have:E=p:=by rw[HE.out];omega
       subst this
       have hs:¬ ((rr:Int)+(v1:Int)<4294967296):=by omega
       have hs':(4294967296:Int)<=(rr:Int)+(v1:Int):=by omega
       have hds:decide ((4294967296:Int)<=(rr:Int)+(v1:Int))=true:=decide_eq_true hs'
       clear hp hn hg hpe hbig hst
       go_wp2
       go_ret2
       exact⟨by rw[<-HQ.out,<-HR.out];simp,rfl⟩
     ·have hlt:(qq:Int)<4294967296:=by omega
      have hge:¬ ((4294967296:Int)<=(qq:Int)):=by omega
      have hdg:decide ((4294967296:Int)<=(qq:Int))=false:=decide_eq_false hge
      have hz:qq*v0<18446744073709551616:=Nat.lt_of_le_of_lt (Nat.mul_le_mul (show qq<=4294967295 by omega) (show v0<=4294967295 by omega)) (by decide)
      have eZ:=zdV qq v0 hz
      obtain⟨z,hze⟩:∃ z,z=qq*v0:=⟨_,rfl⟩
      rw[<-hze] at hz eZ
      by_cases ht:4294967296*rr+n0<z
      ·have hp:=hg.great c0 hU (Or.inr (by rw[<-hze];exact ht))
       obtain⟨p,hpe⟩:∃ p,p+1=qq:=⟨qq-1,by omega⟩
       have eP:(qq:Int)-1=(p:Int):=by omega
       have htt:4294967296*(rr:Int)+(n0:Int)<(z:Int):=by omega
       have hdt:decide (4294967296*(rr:Int)+(n0:Int)<(z:Int))=true:=decide_eq_true htt
       by_cases hst:rr+v1<4294967296
       ·have hn:=hg.less c0 hU (Or.inr (by rw[<-hze];exact ht)) hst
        rw[show qq-1=p by omega] at hn
        have HN:Hid _:=hn
        have hs:(rr:Int)+(v1:Int)<4294967296:=by omega
        have hs':¬ ((4294967296:Int)<=(rr:Int)+(v1:Int)):=by omega
        have hds:decide ((4294967296:Int)<=(rr:Int)+(v1:Int))=false:=decide_eq_false hs'
        clear hp hn hg hpe hbig hst ht hze
        go_wp2
        refine⟨⟨p,rr+v1,rfl,by go_num,HN.out,trivial⟩,?_⟩
        have:=HT.out
        simp [intOf]
        omega
       ·have hn:=hg.stop b0 c0 hU (Or.inr (by rw[<-hze];exact ht)) (by omega)
        have:E=p:=by rw[HE.out];omega
        subst this
        have hs:¬ ((rr:Int)+(v1:Int)<4294967296):=by omega
        have hs':(4294967296:Int)<=(rr:Int)+(v1:Int):=by omega
        have hds:decide ((4294967296:Int)<=(rr:Int)+(v1:Int))=true:=decide_eq_true hs'
        clear hp hn hg hpe hbig hst ht hze
        go_wp2
        go_ret2
        exact⟨by rw[<-HQ.out,<-HR.out];simp,rfl⟩
      ·have hn:=hg.right (by omega) (by rw[<-hze];omega)
       have:E=qq:=by rw[HE.out];omega
       subst this
       have htt:¬ (4294967296*(rr:Int)+(n0:Int)<(z:Int)):=by omega
       have hdt:decide (4294967296*(rr:Int)+(n0:Int)<(z:Int))=false:=decide_eq_false htt
       clear hn hg hbig ht hze
       go_wp2
       go_ret2
       exact⟨by rw[<-HQ.out,<-HR.out];simp,rfl⟩
  ·have hlt:(qq:Int)<4294967296:=by omega
   have hge:¬ ((4294967296:Int)<=(qq:Int)):=by omega
   have hdg:decide ((4294967296:Int)<=(qq:Int))=false:=decide_eq_false hge
   have hz:qq*v0<18446744073709551616:=Nat.lt_of_le_of_lt (Nat.mul_le_mul (show qq<=4294967295 by omega) (show v0<=4294967295 by omega)) (by decide)
   have eZ:=zdV qq v0 hz
   obtain⟨z,hze⟩:∃ z,z=qq*v0:=⟨_,rfl⟩
   rw[<-hze] at hz eZ
   by_cases ht:4294967296*rr+n1<z
   ·have hp:=hg.great c1 hHY (Or.inr (by rw[<-hze];exact ht))
    obtain⟨p,hpe⟩:∃ p,p+1=qq:=⟨qq-1,by omega⟩
    have eP:(qq:Int)-1=(p:Int):=by omega
    have htt:4294967296*(rr:Int)+(n1:Int)<(z:Int):=by omega
    have hdt:decide (4294967296*(rr:Int)+(n1:Int)<(z:Int))=true:=decide_eq_true htt
    by_cases hst:rr+v1<4294967296
    ·have hn:=hg.less c1 hHY (Or.inr (by rw[<-hze];exact ht)) hst
     rw[show qq-1=p by omega] at hn
     have HN:Hid _:=hn
     have hs:(rr:Int)+(v1:Int)<4294967296:=by omega
     have hs':¬ ((4294967296:Int)<=(rr:Int)+(v1:Int)):=by omega
     have hds:decide ((4294967296:Int)<=(rr:Int)+(v1:Int))=false:=decide_eq_false hs'
     clear hp hn hg hpe hbig hst ht hze
     go_wp2
     refine⟨⟨p,rr+v1,rfl,by go_num,HN.out,trivial⟩,?_⟩
     have:=HT.out
     simp [intOf]
     omega
    ·have hn:=hg.stop b0 c1 hHY (Or.inr (by rw[<-hze];exact ht)) (by omega)
     have:D=p:=by rw[HD.out];omega
     subst this
     have hs:¬ ((rr:Int)+(v1:Int)<4294967296):=by omega
     have hs':(4294967296:Int)<=(rr:Int)+(v1:Int):=by omega
     have hds:decide ((4294967296:Int)<=(rr:Int)+(v1:Int))=true:=decide_eq_true hs'
     clear hp hn hg hpe hbig hst ht hze
     go_wp2
     go_loopw [16,18] (fun rv qv w2=>∃ q r:Nat,qv=.int .u64 (q:Int)/\rv=.int .u64 (r:Int)/\Gs U n0 Y v1 v0 q r/\w2=wr) (fun rv _ _=>T-(intOf rv).toNat)
     case atStart=>exact⟨q0,r0,rfl,rfl,HG0.out,rfl⟩
     case round=>
      clear HG0 eQ0 eM0 hm0 eR0
      obtain⟨qq,rr,rfl,rfl,hg,rfl⟩:=hrel
      have hr:=hg.lt
      have hqU:qq<=18446744073709551615:=by
       have h1:=hg.sum
       have h2:qq*1<=qq*v1:=Nat.mul_le_mul_left _ (by omega)
       omega
      by_cases hbig:4294967296<=qq
      ·have hp:=hg.great c0 hU (Or.inl hbig)
       obtain⟨p,hpe⟩:∃ p,p+1=qq:=⟨qq-1,by omega⟩
       have eP:(qq:Int)-1=(p:Int):=by omega
       have hlt:¬ ((qq:Int)<4294967296):=by omega
       have hge:(4294967296:Int)<=(qq:Int):=by omega
       have hdg:decide ((4294967296:Int)<=(qq:Int))=true:=decide_eq_true hge
       by_cases hst:rr+v1<4294967296
       ·have hn:=hg.less c0 hU (Or.inl hbig) hst
        rw[show qq-1=p by omega] at hn
        have HN:Hid _:=hn
        have hs:(rr:Int)+(v1:Int)<4294967296:=by omega
        have hs':¬ ((4294967296:Int)<=(rr:Int)+(v1:Int)):=by omega
        have hds:decide ((4294967296:Int)<=(rr:Int)+(v1:Int))=false:=decide_eq_false hs'
        clear hp hn hg hpe hbig hst
        go_wp2
        refine⟨⟨p,rr+v1,rfl,by go_num,HN.out,trivial⟩,?_⟩
        have:=HT.out
        simp [intOf]
        omega
       ·have hn:=hg.stop b0 c0 hU (Or.inl hbig) (by omega)
        have:E=p:=by rw[HE.out];omega
        subst this
        have hs:¬ ((rr:Int)+(v1:Int)<4294967296):=by omega
        have hs':(4294967296:Int)<=(rr:Int)+(v1:Int):=by omega
        have hds:decide ((4294967296:Int)<=(rr:Int)+(v1:Int))=true:=decide_eq_true hs'
        clear hp hn hg hpe hbig hst
        go_wp2
        go_ret2
        exact⟨by rw[<-HQ.out,<-HR.out];simp,rfl⟩
      ·have hlt:(qq:Int)<4294967296:=by omega
       have hge:¬ ((4294967296:Int)<=(qq:Int)):=by omega
       have hdg:decide ((4294967296:Int)<=(qq:Int))=false:=decide_eq_false hge
       have hz:qq*v0<18446744073709551616:=Nat.lt_of_le_of_lt (Nat.mul_le_mul (show qq<=4294967295 by omega) (show v0<=4294967295 by omega)) (by decide)
       have eZ:=zdV qq v0 hz
       obtain⟨z,hze⟩:∃ z,z=qq*v0:=⟨_,rfl⟩
       rw[<-hze] at hz eZ
       by_cases ht:4294967296*rr+n0<z
       ·have hp:=hg.great c0 hU (Or.inr (by rw[<-hze];exact ht))
        obtain⟨p,hpe⟩:∃ p,p+1=qq:=⟨qq-1,by omega⟩
        have eP:(qq:Int)-1=(p:Int):=by omega
        have htt:4294967296*(rr:Int)+(n0:Int)<(z:Int):=by omega
        have hdt:decide (4294967296*(rr:Int)+(n0:Int)<(z:Int))=true:=decide_eq_true htt
        by_cases hst:rr+v1<4294967296
        ·have hn:=hg.less c0 hU (Or.inr (by rw[<-hze];exact ht)) hst
         rw[show qq-1=p by omega] at hn
         have HN:Hid _:=hn
         have hs:(rr:Int)+(v1:Int)<4294967296:=by omega
         have hs':¬ ((4294967296:Int)<=(rr:Int)+(v1:Int)):=by omega
         have hds:decide ((4294967296:Int)<=(rr:Int)+(v1:Int))=false:=decide_eq_false hs'
         clear hp hn hg hpe hbig hst ht hze
         go_wp2
         refine⟨⟨p,rr+v1,rfl,by go_num,HN.out,trivial⟩,?_⟩
         have:=HT.out
         simp [intOf]
         omega
        ·have hn:=hg.stop b0 c0 hU (Or.inr (by rw[<-hze];exact ht)) (by omega)
         have:E=p:=by rw[HE.out];omega
         subst this
         have hs:¬ ((rr:Int)+(v1:Int)<4294967296):=by omega
         have hs':(4294967296:Int)<=(rr:Int)+(v1:Int):=by omega
         have hds:decide ((4294967296:Int)<=(rr:Int)+(v1:Int))=true:=decide_eq_true hs'
         clear hp hn hg hpe hbig hst ht hze
         go_wp2
         go_ret2
         exact⟨by rw[<-HQ.out,<-HR.out];simp,rfl⟩
       ·have hn:=hg.right (by omega) (by rw[<-hze];omega)
        have:E=qq:=by rw[HE.out];omega
        subst this
        have htt:¬ (4294967296*(rr:Int)+(n0:Int)<(z:Int)):=by omega
        have hdt:decide (4294967296*(rr:Int)+(n0:Int)<(z:Int))=false:=decide_eq_false htt
        clear hn hg hbig ht hze
        go_wp2
        go_ret2
        exact⟨by rw[<-HQ.out,<-HR.out];simp,rfl⟩
   ·have hn:=hg.right (by omega) (by rw[<-hze];omega)
    have:D=qq:=by rw[HD.out];omega
    subst this
    have htt:¬ (4294967296*(rr:Int)+(n1:Int)<(z:Int)):=by omega
    have hdt:decide (4294967296*(rr:Int)+(n1:Int)<(z:Int))=false:=decide_eq_false htt
    clear hn hg hbig ht hze
    go_wp2
    go_loopw [16,18] (fun rv qv w2=>∃ q r:Nat,qv=.int .u64 (q:Int)/\rv=.int .u64 (r:Int)/\Gs U n0 Y v1 v0 q r/\w2=wr) (fun rv _ _=>T-(intOf rv).toNat)
    case atStart=>exact⟨q0,r0,rfl,rfl,HG0.out,rfl⟩
    case round=>
     clear HG0 eQ0 eM0 hm0 eR0
     obtain⟨qq,rr,rfl,rfl,hg,rfl⟩:=hrel
     have hr:=hg.lt
     have hqU:qq<=18446744073709551615:=by
      have h1:=hg.sum
      have h2:qq*1<=qq*v1:=Nat.mul_le_mul_left _ (by omega)
      omega
     by_cases hbig:4294967296<=qq
     ·have hp:=hg.great c0 hU (Or.inl hbig)
      obtain⟨p,hpe⟩:∃ p,p+1=qq:=⟨qq-1,by omega⟩
      have eP:(qq:Int)-1=(p:Int):=by omega
      have hlt:¬ ((qq:Int)<4294967296):=by omega
      have hge:(4294967296:Int)<=(qq:Int):=by omega
      have hdg:decide ((4294967296:Int)<=(qq:Int))=true:=decide_eq_true hge
      by_cases hst:rr+v1<4294967296
      ·have hn:=hg.less c0 hU (Or.inl hbig) hst
       rw[show qq-1=p by omega] at hn
       have HN:Hid _:=hn
       have hs:(rr:Int)+(v1:Int)<4294967296:=by omega
       have hs':¬ ((4294967296:Int)<=(rr:Int)+(v1:Int)):=by omega
       have hds:decide ((4294967296:Int)<=(rr:Int)+(v1:Int))=false:=decide_eq_false hs'
       clear hp hn hg hpe hbig hst
       go_wp2
       refine⟨⟨p,rr+v1,rfl,by go_num,HN.out,trivial⟩,?_⟩
       have:=HT.out
       simp [intOf]
       omega
      ·have hn:=hg.stop b0 c0 hU (Or.inl hbig) (by omega)
       have:E=p:=by rw[HE.out];omega
       subst this
       have hs:¬ ((rr:Int)+(v1:Int)<4294967296):=by omega
       have hs':(4294967296:Int)<=(rr:Int)+(v1:Int):=by omega
       have hds:decide ((4294967296:Int)<=(rr:Int)+(v1:Int))=true:=decide_eq_true hs'
       clear hp hn hg hpe hbig hst
       go_wp2
       go_ret2
       exact⟨by rw[<-HQ.out,<-HR.out];simp,rfl⟩
     ·have hlt:(qq:Int)<4294967296:=by omega
      have hge:¬ ((4294967296:Int)<=(qq:Int)):=by omega
      have hdg:decide ((4294967296:Int)<=(qq:Int))=false:=decide_eq_false hge
      have hz:qq*v0<18446744073709551616:=Nat.lt_of_le_of_lt (Nat.mul_le_mul (show qq<=4294967295 by omega) (show v0<=4294967295 by omega)) (by decide)
      have eZ:=zdV qq v0 hz
      obtain⟨z,hze⟩:∃ z,z=qq*v0:=⟨_,rfl⟩
      rw[<-hze] at hz eZ
      by_cases ht:4294967296*rr+n0<z
      ·have hp:=hg.great c0 hU (Or.inr (by rw[<-hze];exact ht))
       obtain⟨p,hpe⟩:∃ p,p+1=qq:=⟨qq-1,by omega⟩
       have eP:(qq:Int)-1=(p:Int):=by omega
       have htt:4294967296*(rr:Int)+(n0:Int)<(z:Int):=by omega
       have hdt:decide (4294967296*(rr:Int)+(n0:Int)<(z:Int))=true:=decide_eq_true htt
       by_cases hst:rr+v1<4294967296
       ·have hn:=hg.less c0 hU (Or.inr (by rw[<-hze];exact ht)) hst
        rw[show qq-1=p by omega] at hn
        have HN:Hid _:=hn
        have hs:(rr:Int)+(v1:Int)<4294967296:=by omega
        have hs':¬ ((4294967296:Int)<=(rr:Int)+(v1:Int)):=by omega
        have hds:decide ((4294967296:Int)<=(rr:Int)+(v1:Int))=false:=decide_eq_false hs'
        clear hp hn hg hpe hbig hst ht hze
        go_wp2
        refine⟨⟨p,rr+v1,rfl,by go_num,HN.out,trivial⟩,?_⟩
        have:=HT.out
        simp [intOf]
        omega
       ·have hn:=hg.stop b0 c0 hU (Or.inr (by rw[<-hze];exact ht)) (by omega)
        have:E=p:=by rw[HE.out];omega
        subst this
        have hs:¬ ((rr:Int)+(v1:Int)<4294967296):=by omega
        have hs':(4294967296:Int)<=(rr:Int)+(v1:Int):=by omega
        have hds:decide ((4294967296:Int)<=(rr:Int)+(v1:Int))=true:=decide_eq_true hs'
        clear hp hn hg hpe hbig hst ht hze
        go_wp2
        go_ret2
        exact⟨by rw[<-HQ.out,<-HR.out];simp,rfl⟩
      ·have hn:=hg.right (by omega) (by rw[<-hze];omega)
       have:E=qq:=by rw[HE.out];omega
       subst this
       have htt:¬ (4294967296*(rr:Int)+(n0:Int)<(z:Int)):=by omega
       have hdt:decide (4294967296*(rr:Int)+(n0:Int)<(z:Int))=false:=decide_eq_false htt
       clear hn hg hbig ht hze
       go_wp2
       go_ret2
       exact⟨by rw[<-HQ.out,<-HR.out];simp,rfl⟩
theorem zsC (hi lo y:Nat) (hh0:0<hi) (hh:hi<y) (hl:lo<18446744073709551616) (hy:y<18446744073709551616) (w:World) :
 Calls Tryz.prog 111 #[.int .u64 (hi:Int),.int .u64 (lo:Int),.int .u64 (y:Int)] w fun e w'=>e=.returned (.tuple #[.int .u64 (((hi*18446744073709551616+lo) / y:Nat):Int),.int .u64 (((hi*18446744073709551616+lo) % y:Nat):Int)])/\w'=w:=by
 obtain⟨s,hs⟩:∃ s,s=64-Lib.bitLen y:=⟨_,rfl⟩
 have HL:Hid (∀ w,Calls Tryz.prog 104 #[.int .u64 (y:Int)] w fun e w'=>e=.returned (.int .i64 (s:Int))/\w'=w):=by rw[hs];exact fun w=>zoS y hy w
 obtain⟨s1,s2,s3⟩:=lead_up y (by omega) hy
 rw[<-hs] at s1 s2 s3
 clear hs
 have u1:=up_lt hi lo y s s1 hl hh
 have u2:=up_or hi lo s s1 hl
 have u3:=up_sum hi lo s s1
 obtain⟨d1,d2⟩:=zjU (hi*18446744073709551616+lo) y s
 rw[<-u3] at d1 d2
 have eB:IntKind.u64.wrap ((hi:Int)*2 ^ s)=((hi*2 ^ s % 18446744073709551616:Nat):Int):=zeV hi s
 have eY:IntKind.u64.wrap ((y:Int)*2 ^ s)=((y*2 ^ s % 18446744073709551616:Nat):Int):=zeV y s
 have eL:IntKind.u64.wrap ((lo:Int)*2 ^ s)=((lo*2 ^ s % 18446744073709551616:Nat):Int):=zeV lo s
 have hL:lo*2 ^ s % 18446744073709551616<18446744073709551616:=Nat.mod_lt _ (by decide)
 rw[Nat.mod_eq_of_lt s3] at eY
 have eK:(lo:Int) / 2 ^ (64-s)=((lo / 2 ^ (64-s):Nat):Int):=by simp
 obtain⟨QQ,hQQ⟩:∃ x,x=(hi*18446744073709551616+lo) / y:=⟨_,rfl⟩
 obtain⟨RR,hRR⟩:∃ x,x=(hi*18446744073709551616+lo) % y:=⟨_,rfl⟩
 obtain⟨L,hLe⟩:∃ x,x=lo*2 ^ s % 18446744073709551616:=⟨_,rfl⟩
 obtain⟨B,hBe⟩:∃ x,x=hi*2 ^ s:=⟨_,rfl⟩
 obtain⟨C,hCe⟩:∃ x,x=lo / 2 ^ (64-s):=⟨_,rfl⟩
 obtain⟨Y,hYe⟩:∃ x,x=y*2 ^ s:=⟨_,rfl⟩
 rw[<-hQQ] at d1
 rw[<-hRR] at d2
 rw[<-hQQ,<-hRR]
 rw[<-hLe] at eL hL u3 d1 d2
 rw[<-hYe] at eY s2 s3 u1 d1 d2
 rw[<-hBe] at eB u1 u2 u3 d1 d2
 rw[<-hCe] at u1 u2 u3 d1 d2 eK
 clear hQQ hRR hLe hBe hCe hYe u3
 obtain⟨H,hHe⟩:∃ x,x=B+C:=⟨_,rfl⟩
 rw[<-hHe] at u1 u2 d1 d2
 have hB:B<18446744073709551616:=by omega
 rw[Nat.mod_eq_of_lt hB] at eB
 have eO:bits .or .u64 (B:Int) ((lo:Int) / 2 ^ (64-s))=(H:Int):=by
  rw[eK,bits_or_u64_nat _ _ hB (by omega),u2]
 clear u2 eK hHe
 have eA:bits .and .u64 (Y:Int) 4294967295=((Y % 4294967296:Nat):Int):=by
  rw[show (4294967295:Int)=((2 ^ 32-1:Nat):Int) by rfl,bits_and_u64_nat _ _ s3 (by decide),Nat.and_two_pow_sub_one_eq_mod]
 have eA':bits .and .u64 (L:Int) 4294967295=((L % 4294967296:Nat):Int):=by
  rw[show (4294967295:Int)=((2 ^ 32-1:Nat):Int) by rfl,bits_and_u64_nat _ _ hL (by decide),Nat.and_two_pow_sub_one_eq_mod]
 have eD:(Y:Int) / 4294967296=((Y / 4294967296:Nat):Int):=by simp
 have eD':(L:Int) / 4294967296=((L / 4294967296:Nat):Int):=by simp
 obtain⟨v1,e1⟩:∃ v1,v1=Y / 4294967296:=⟨_,rfl⟩
 obtain⟨v0,e0⟩:∃ v0,v0=Y % 4294967296:=⟨_,rfl⟩
 obtain⟨n1,f1⟩:∃ n1,n1=L / 4294967296:=⟨_,rfl⟩
 obtain⟨n0,f0⟩:∃ n0,n0=L % 4294967296:=⟨_,rfl⟩
 have HV:Y=v1*4294967296+v0:=by omega
 have HN:L=n1*4294967296+n0:=by omega
 rw[<-e1] at eD
 rw[<-e0] at eA
 rw[<-f1] at eD'
 rw[<-f0] at eA'
 have b1:2147483648<=v1:=by omega
 have b1':v1<4294967296:=by omega
 have b0:v0<4294967296:=by omega
 have c1:n1<4294967296:=by omega
 have c0:n0<4294967296:=by omega
 have hYp:0<Y:=by omega
 clear e1 e0 f1 f0
 have hH:H<18446744073709551616:=by omega
 have hU:rst H n1 Y<Y:=zuC H n1 Y hYp
 have hF:rst (rst H n1 Y) n0 Y<Y:=zuC (rst H n1 Y) n0 Y hYp
 obtain⟨t1,t2⟩:=zqZ H n1 n0 Y hYp
 have eT:H*18446744073709551616+n1*4294967296+n0=H*18446744073709551616+L:=by omega
 rw[eT] at t1 t2
 rw[t1] at d1
 rw[t2] at d2
 obtain⟨a1,a2,a3,k1,k2,k3,g1,g2,g3,g4⟩:=cut64 H n1 (dgt H n1 Y) Y (rst H n1 Y) (zjT H n1 Y) (by omega)
 obtain⟨o1,o2,o3,k1',k2',k3',i1,i2,i3,i4⟩:=cut64 (rst H n1 Y) n0 (dgt (rst H n1 Y) n0 Y) Y (rst (rst H n1 Y) n0 Y) (zjT (rst H n1 Y) n0 Y) (by omega)
 have hD:=zsA H n1 Y c1 u1
 have hE:=zsA (rst H n1 Y) n0 Y c0 hU
 have hU':rst H n1 Y<18446744073709551616:=by omega
 have quo:∀ x:Nat,x<18446744073709551616->IntKind.u64.wrap ((x:Int) / (v1:Int))=((x / v1:Nat):Int):=fun x hx=>by
  rw[show (x:Int) / (v1:Int)=((x / v1:Nat):Int) by simp,zpT _ (Nat.lt_of_le_of_lt (Nat.div_le_self _ _) hx)]
 have mul:∀ x:Nat,x<18446744073709551616->IntKind.u64.wrap (((x / v1:Nat):Int)*(v1:Int))=((x / v1*v1:Nat):Int):=fun x hx=>zdV _ _ (Nat.lt_of_le_of_lt (Nat.div_mul_le_self x v1) hx)
 have sub:∀ x:Nat,(x:Int)-((x / v1*v1:Nat):Int)=((x % v1:Nat):Int):=fun x=>by have:=Nat.div_add_mod' x v1;omega
 exact zqF hi lo y s B Y L H QQ RR v1 v0 n1 n0 (H / v1) (H % v1) (H / v1*v1) hh0 hh hl hy s1 HL eB eY eL eO u1 s3 hL eA eD eA' eD' b1 b1' b0 c1 c0
  (Gs.start H n1 Y v1 v0 HV b1 b1' c1) (quo H hH) (mul H hH) (Nat.div_mul_le_self H v1) (sub H)
  (dgt H n1 Y) (rst H n1 Y) a1 a2 a3 (rst H n1 Y / v1) (rst H n1 Y / v1*v1) (rst H n1 Y % v1) rfl hU k1 k2 k3 g1 g2 g3 g4
  (Gs.start (rst H n1 Y) n0 Y v1 v0 HV b1 b1' c0) (quo _ hU') (mul _ hU') (Nat.div_mul_le_self _ v1) (sub _)
  (dgt (rst H n1 Y) n0 Y) (rst (rst H n1 Y) n0 Y) o1 o2 o3 rfl hF k1' k2' k3' i1 i2 i3 i4 hD hE d1 d2 w
theorem zsB (hi lo y:Nat) (hh:hi<y) (hl:lo<18446744073709551616) (hy:y<18446744073709551616) (w:World) :
 Calls Tryz.prog 111 #[.int .u64 (hi:Int),.int .u64 (lo:Int),.int .u64 (y:Int)] w fun e w'=>e=.returned (.tuple #[.int .u64 (((hi*18446744073709551616+lo) / y:Nat):Int),.int .u64 (((hi*18446744073709551616+lo) % y:Nat):Int)])/\(w'=w\/w'=w.drew):=by
 rcases Nat.eq_zero_or_pos hi with h0|h0
 ·subst h0
  refine (zqG lo y hl hy hh w).mono ?_
  rintro e w' ⟨he,hw⟩
  exact⟨by rw[he,Nat.zero_mul,Nat.zero_add],Or.inr hw⟩
 ·refine (zsC hi lo y h0 hh hl hy w).mono ?_
  rintro e w' ⟨he,hw⟩
  exact⟨he,Or.inl hw⟩
theorem div64_N (hi lo y:Nat) (hh:hi<y) (hl:lo<18446744073709551616) (hy:y<18446744073709551616) (w:World) :
 Calls Tryz.prog 111 #[.int .u64 (hi:Int),.int .u64 (lo:Int),.int .u64 (y:Int)] w fun e w'=>e=.returned (.tuple #[.int .u64 (((hi*18446744073709551616+lo) / y:Nat):Int),.int .u64 (((hi*18446744073709551616+lo) % y:Nat):Int)])/\∃ n,w'=w.drewN n:=by
 refine (zsB hi lo y hh hl hy w).mono ?_
 rintro e w' ⟨he,hw⟩
 refine⟨he,?_⟩
 rcases hw with h|h
 ·exact⟨0,by rw[h,World.drewN_zero]⟩
 ·exact⟨1,h⟩
theorem zlR {P:Program} (t e:TypeId) (n:Nat) (ht:P.underlying t=some (.array n e)) (he:P.underlying e=some (.int .u64)) (hsz:∀ w,(sizeOf e).run P w=.ok 1 w) (xs:List Nat) (hx:xs.length=n) (i:Nat) (hi:i<n) (w:World) :
 (Instr.index t (.agg (vQ xs).toArray) (.int .i64 (i:Int))).run P w=.ok (.int .u64 ((xs.getD i 0:Nat):Int)) w:=by
 have h1:(0:Int)<=(i:Int)/\(i:Int)<(n:Int):=by omega
 have hp:(part e (vQ xs).toArray i).run P w=.ok (.int .u64 ((xs.getD i 0:Nat):Int)) w:=by
  simp [part,isAgg,run_underlying he,vQ,List.getElem?_eq_getElem (show i<xs.length by omega)]
 simp [Instr.index,run_underlying ht,asIntOf,hsz,hp,hi]
theorem zcR:(Tryz.prog.info? 144).map (·.size)=some 9:=by kernel_rfl
theorem zyH:(Tryz.prog.info? 129).map (·.size)=some 8:=by kernel_rfl
theorem ziH (D s:Nat) (hD:D<18446744073709551616 ^ 8) (hs:s<=63) (w:World) :
 Calls Tryz.prog 105 #[.agg (vQ (dgs D 8)).toArray,.int .i64 (s:Int)] w fun e w'=>e=.returned (.agg (vQ (dgs (D*2 ^ s) 9)).toArray)/\Below w.heap.size w w':=by
 have HEND:Hid (upl D s 8=dgs (D*2 ^ s) 9):=upl_end D s hD
 have HIX:Hid (∀ (i:Nat) (w:World),i<8->(Instr.index 129 (.agg (vQ (dgs D 8)).toArray) (.int .i64 (i:Int))).run Tryz.prog w=.ok (.int .u64 ((lim D i:Nat):Int)) w):=fun i w hi=>by
  rw[zlR 129 25 8 Tryz.underlying129 Tryz.underlying25 zpF (dgs D 8) (zaH _ _) i hi w,zbP _ _ _ hi]
 obtain⟨ca,hca⟩:∃ ca,ca=vQ (dgs D 8):=⟨_,rfl⟩
 rw[<-hca] at HIX ⊢
 have la:ca.length=8:=by rw[hca,zaJ,zaH]
 have ia:(Tryz.prog.info? 129).map (·.size)=some ca.length:=by rw[zyH,la]
 clear hca la hD
 have rA:Row (w.alloc (Obj.cells ca.toArray 129)) w.heap.size ca 129:=Row.new w ca _
 go_enter Tryz.func105,Tryz.ntmps105
 go_wp2_with (refine wpList_load_mid rfl 129 (.tmp 2) rfl w.heap.size 0 rfl ca _ (Row.alloc (Row.alloc rA _) _).all Tryz.underlying129 rfl ia ?_;simp only[Act.put,jA,jB,jC])
 go_loopw [6,7,9] (fun _ _ i wr=>∃ t:Nat,t<=8/\i=.int .i64 (t:Int)/\Below w.heap.size w wr/\Row wr (w.heap.size+1) (vQ (List.replicate 9 0)) 144/\Row wr (w.heap.size+1+1) (vQ (upl D s t)) 144)
  (fun _ _ i _=>8-(intOf i).toNat)
 case atStart=>
  refine⟨0,by omega,rfl,(((Below.refl _ _).alloc (Nat.le_refl _) _).alloc (by simp) _).alloc (by simp;omega) _,?_,?_⟩
  ·exact (Row.new' (by simp) rfl).alloc _
  ·rw[yaG];exact Row.new' (by simp) rfl
 case round=>
  obtain⟨t,ht,rfl,hb,h4,h5⟩:=hrel
  by_cases hlt:t<8
  ·have g5:=h5.cell t _ (zbW _ t (by rw[zfK D s t ht];omega))
   have gf:=h5.thaw t
   have g6:=h5.cell (t+1) _ (zbW _ (t+1) (by rw[zfK D s t ht];omega))
   have gg:=h5.thaw (t+1)
   have HST:Hid _:=yaF D s t hs hlt
   have hor:=upl_or ((upl D s t).getD t 0) (lim D t) s (by rw[znQ D s t hs];exact zvC D s t) hs
   have hpl:(upl D s t).getD t 0<18446744073709551616:=by rw[upl_at];exact Nat.mod_lt _ (by decide)
   have hxl:=zbQ D t
   have hix:=HIX.out t wr hlt
   generalize (upl D s t).getD t 0=p at g5 HST hor hpl
   generalize (upl D s t).getD (t+1) 0=z at g6
   generalize lim D t=x at HST hor hix hxl
   have eB:IntKind.u64.wrap ((x:Int)*2 ^ s)=((x*2 ^ s % 18446744073709551616:Nat):Int):=zeV x s
   have hml:x*2 ^ s % 18446744073709551616<18446744073709551616:=Nat.mod_lt _ (by decide)
   obtain⟨m,hm⟩:∃ m,m=x*2 ^ s % 18446744073709551616:=⟨_,rfl⟩
   rw[<-hm] at eB hor HST hml
   have eO:bits .or .u64 (p:Int) (m:Int)=((p+m:Nat):Int):=by rw[bits_or_u64_nat _ _ hpl hml,hor]
   have eK:(x:Int) / 2 ^ (64-s)=((x / 2 ^ (64-s):Nat):Int):=by simp
   obtain⟨v,hv⟩:∃ v,v=p+m:=⟨_,rfl⟩
   rw[<-hv] at eO HST
   obtain⟨y,hy⟩:∃ y,y=x / 2 ^ (64-s):=⟨_,rfl⟩
   rw[<-hy] at eK HST
   clear hv hm hor hpl hml hy hxl ht
   go_wp2
   go_region
   go_wp2
   refine⟨⟨t+1,hlt,by go_num,Below.drew (Below.setCell (Below.setCell hb (by simp;omega) _) (by simp;omega) _),Row.drew ((h4.set_other _ _ _ (by omega)).set_other _ _ _ (by omega)),?_⟩,by simp [intOf];omega⟩
   have:=(h5.set t (.int .u64 (v:Int))).set (t+1) (.int .u64 (y:Int))
   rw[zeY,zeY,HST.out] at this
   exact Row.drew this
  ·have e8:(t:Int)=8:=by omega
   have et:t=8:=by omega
   rw[et,HEND.out] at h5
   rw[e8]
   clear et e8 ht hlt HEND HIX ia rA
   obtain⟨cs,hcs⟩:∃ cs,cs=vQ (dgs (D*2 ^ s) 9):=⟨_,rfl⟩
   have hl:cs.length=9:=by rw[hcs,zaJ,zaH]
   rw[<-hcs] at h5
   have i9:(Tryz.prog.info? 144).map (·.size)=some cs.length:=by rw[zcR,hl]
   have i9':(Tryz.prog.info? 144).map (·.size)=some cs.toArray.size:=by rw[zcR];simp [hl]
   have hone:=all_oneCell_toArray (show ∀ v ∈ cs,v.oneCell'=true by rw[hcs];exact zbR _)
   have T:=h4.there 0 cs.toArray.size (by simp [hl,zaJ])
   have fin:=h4.over (vs:=cs) (by rw[hl];rfl)
   have hbf:=zaC hb (b:=w.heap.size+1) (o:=0) (by omega) cs
   have HE:Hid (vQ (dgs (D*2 ^ s) 9)=cs):=hcs.symm
   have HL:Hid (cs.length=9):=hl
   clear hcs hl hb
   go_wp2_with (first
    |(refine wpList_load_mid rfl 144 (.tmp 5) rfl (w.heap.size+1+1) 0 rfl cs _ h5.all Tryz.underlying144 rfl i9 ?_;simp only[Act.put,jA,jB,jC])
    |(refine wpList_store_mid rfl 144 (.tmp 4) (.tmp 29) rfl (w.heap.size+1) 0 cs.toArray rfl rfl T i9' hone ?_;simp only[Act.put]))
   exact bodyPost_ret (zcK Tryz.results105 _ _ (w.heap.size+1) 144 cs rfl fin Tryz.underlying144 zcR HL.out) rfl ⟨by rw[HE.out],hbf⟩
theorem dnpart (R s t:Nat) (hs:s<=63) (ht:t<4):(dgs (R / 2 ^ s) t++List.replicate (4-t) 0).set t (lim R t / 2 ^ s ||| (lim R (t+1)*2 ^ (64-s) % 18446744073709551616))=dgs (R / 2 ^ s) (t+1)++List.replicate (4-(t+1)) 0:=by
 rw[zsI R s t hs,fill _ t 4 _ (zaH _ _) ht,<-zhN]
theorem zkH (R s:Nat) (hs:s<=63) (w:World) :
 Calls Tryz.prog 108 #[.agg (vQ (dgs R 9)).toArray,.int .i64 (s:Int)] w fun e w'=>e=.returned (.agg (vQ (dgs (R / 2 ^ s) 4)).toArray)/\Below w.heap.size w w':=by
 go_enter Tryz.func108,Tryz.ntmps108
 go_wp2
 go_loopw [6,7] (fun _ i wr=>∃ t:Nat,t<=4/\i=.int .i64 (t:Int)/\Below w.heap.size w wr/\Row wr w.heap.size (vQ (dgs R 9)) 144/\Row wr (w.heap.size+1) (vQ (List.replicate 4 0)) 27/\Row wr (w.heap.size+1+1) (vQ (dgs (R / 2 ^ s) t++List.replicate (4-t) 0)) 27)
  (fun _ i _=>4-(intOf i).toNat)
 case atStart=>
  refine⟨0,by omega,rfl,(((Below.refl _ _).alloc (Nat.le_refl _) _).alloc (by simp) _).alloc (by simp;omega) _,?_,?_,?_⟩
  ·exact ((Row.new' rfl rfl).alloc _).alloc _
  ·exact (Row.new' (by simp) rfl).alloc _
  ·exact Row.new' (by simp) rfl
 case round=>
  obtain⟨t,ht,rfl,hb,h2,h4,h5⟩:=hrel
  by_cases hlt:t<4
  ·have g2:=h2.cell t _ (zbW _ t (by rw[zaH];omega))
   have g3:=h2.cell (t+1) _ (zbW _ (t+1) (by rw[zaH];omega))
   rw[zbP _ _ _ (by omega)] at g2 g3
   have g5:=h5.cell t _ (zbW _ t (by rw[List.length_append,zaH,List.length_replicate];omega))
   have gf:=h5.thaw t
   have HST:Hid _:=dnpart R s t hs hlt
   have hx:=zbQ R t
   have hy:=zbQ R (t+1)
   generalize lim R t=x at *
   generalize lim R (t+1)=y at *
   generalize (dgs (R / 2 ^ s) t++List.replicate (4-t) 0).getD t 0=z at g5
   have eK:(x:Int) / 2 ^ s=((x / 2 ^ s:Nat):Int):=by simp
   have eB:IntKind.u64.wrap ((y:Int)*2 ^ (64-s))=((y*2 ^ (64-s) % 18446744073709551616:Nat):Int):=zeV y (64-s)
   have hml:y*2 ^ (64-s) % 18446744073709551616<18446744073709551616:=Nat.mod_lt _ (by decide)
   have hkl:x / 2 ^ s<18446744073709551616:=Nat.lt_of_le_of_lt (Nat.div_le_self _ _) hx
   obtain⟨m,hm⟩:∃ m,m=y*2 ^ (64-s) % 18446744073709551616:=⟨_,rfl⟩
   obtain⟨q,hq⟩:∃ q,q=x / 2 ^ s:=⟨_,rfl⟩
   rw[<-hm] at eB HST hml
   rw[<-hq] at eK HST hkl
   have eO:bits .or .u64 (q:Int) (m:Int)=((q ||| m:Nat):Int):=bits_or_u64_nat _ _ hkl hml
   obtain⟨v,hv⟩:∃ v,v=q ||| m:=⟨_,rfl⟩
   rw[<-hv] at eO HST
   clear hv hm hq hkl hml hx hy ht
   go_wp2
   go_region
   go_wp2
   refine⟨⟨t+1,hlt,by go_num,Below.drew (Below.setCell hb (by simp;omega) _),Row.drew (h2.set_other _ _ _ (by omega)),Row.drew (h4.set_other _ _ _ (by omega)),?_⟩,by simp [intOf];omega⟩
   have:=h5.set t (.int .u64 (v:Int))
   rw[zeY,HST.out] at this
   exact Row.drew this
  ·have e4:(t:Int)=4:=by omega
   have et:t=4:=by omega
   rw[et] at h5
   rw[e4]
   clear et e4 ht hlt
   have h5':Row wr (w.heap.size+1+1) (vQ (dgs (R / 2 ^ s) 4)) 27:=by simpa using h5
   clear h5
   obtain⟨cs,hcs⟩:∃ cs,cs=vQ (dgs (R / 2 ^ s) 4):=⟨_,rfl⟩
   have hl:cs.length=4:=by rw[hcs,zaJ,zaH]
   rw[<-hcs] at h5'
   have i9:(Tryz.prog.info? 27).map (·.size)=some cs.length:=by rw[zaL,hl]
   have i9':(Tryz.prog.info? 27).map (·.size)=some cs.toArray.size:=by rw[zaL];simp [hl]
   have hone:=all_oneCell_toArray (show ∀ v ∈ cs,v.oneCell'=true by rw[hcs];exact zbR _)
   have T:=h4.there 0 cs.toArray.size (by simp [hl,zaJ])
   have fin:=h4.over (vs:=cs) (by rw[hl];rfl)
   have hbf:=zaC hb (b:=w.heap.size+1) (o:=0) (by omega) cs
   have HE:Hid (vQ (dgs (R / 2 ^ s) 4)=cs):=hcs.symm
   have HL:Hid (cs.length=4):=hl
   clear hcs hl hb
   go_wp2_with (first
    |(refine wpList_load_mid rfl 27 (.tmp 5) rfl (w.heap.size+1+1) 0 rfl cs _ h5'.all Tryz.underlying27 rfl i9 ?_;simp only[Act.put,jA,jB,jC])
    |(refine wpList_store_mid rfl 27 (.tmp 4) (.tmp 26) rfl (w.heap.size+1) 0 cs.toArray rfl rfl T i9' hone ?_;simp only[Act.put]))
   exact bodyPost_ret (zcK Tryz.results108 _ _ (w.heap.size+1) 27 cs rfl fin Tryz.underlying27 zaL HL.out) rfl ⟨by rw[HE.out],hbf⟩
theorem zsV (hi lo y:Nat) (hh:hi<=y) (hl:lo<18446744073709551616) (hy:y<18446744073709551616) (w:World) :
 Calls Tryz.prog 106 #[.int .u64 (hi:Int),.int .u64 (lo:Int),.int .u64 (y:Int)] w fun e w'=>e=.returned (.int .u64 ((gss hi lo y:Nat):Int))/\∃ n,w'=w.drewN n:=by
 by_cases he:hi=y
 ·subst he
  have hg:gss hi lo hi=18446744073709551615:=if_pos rfl
  rw[hg]
  clear hg hh hl hy
  go_enter Tryz.func106,Tryz.ntmps106
  go_wp2
  go_ret
  exact⟨rfl,0,by rw[World.drewN_zero]⟩
 ·have hg:gss hi lo y=(hi*18446744073709551616+lo) / y:=if_neg he
  rw[hg]
  have HD:Hid (∀ w,_):=div64_N hi lo y (by omega) hl hy
  have hne:((hi:Int)==(y:Int))=false:=by simpa using (by omega:¬ (hi:Int)=(y:Int))
  have hne':¬ (hi:Int)=(y:Int):=by omega
  generalize (hi*18446744073709551616+lo) / y=q at *
  generalize (hi*18446744073709551616+lo) % y=r at *
  clear hg hh hl hy he
  go_enter Tryz.func106,Tryz.ntmps106
  go_wp2_with (go_at_call 111;refine (HD.out w).mono ?_;rintro e w2 ⟨rfl,n,rfl⟩)
  go_ret
  exact⟨rfl,n,rfl⟩
namespace Wd
structure Tk (R Y q k n t:Nat) (l:List Nat) (c b:Nat):Prop where
 len:l.length=9
 lt:∀ x ∈ l,x<18446744073709551616
 cl:c<18446744073709551616
 bl:b<=1
 top:∀ j,k+n+1<=j->l.getD j 0=0
 sum:num l+q*(Y % 18446744073709551616 ^ t)*18446744073709551616 ^ k=R+(c+b)*18446744073709551616 ^ (k+t)
theorem get_lt (l:List Nat) (k:Nat) (h:∀ x ∈ l,x<18446744073709551616):l.getD k 0<18446744073709551616:=by
 by_cases hk:k<l.length
 ·rw[List.getD_eq_getElem?_getD,List.getElem?_eq_getElem hk];exact h _ (List.getElem_mem _)
 ·rw[List.getD_eq_getElem?_getD,List.getElem?_eq_none (by omega)];decide
theorem pow_le (a b:Nat) (h:a<=b):18446744073709551616 ^ a<=18446744073709551616 ^ b:=Nat.pow_le_pow_right (by decide) h
theorem ztG (R j m:Nat) (h:R<18446744073709551616 ^ m) (hj:m<=j):lim R j=0:=by
 rw[zeD,Nat.div_eq_of_lt (Nat.lt_of_lt_of_le h (pow_le _ _ hj))]
theorem Tk.start (R Y q k n:Nat) (hk:k+n<=8) (hR:R<18446744073709551616 ^ (k+n+1)):Tk R Y q k n 0 (dgs R 9) 0 0:=by
 refine⟨zaH _ _,zfR _ _,by decide,by decide,fun j hj=>?_,?_⟩
 ·by_cases h9:j<9
  ·rw[zbP _ _ _ h9,ztG R j _ hR hj]
  ·rw[List.getD_eq_getElem?_getD,List.getElem?_eq_none (by rw[zaH];omega)];rfl
 ·rw[zdY R 9 (Nat.lt_of_lt_of_le hR (pow_le _ _ (by omega)))];simp [Nat.mod_one]
theorem sub_eq (x lo b:Nat) (hx:x<18446744073709551616) (hl:lo<18446744073709551616) (hb:b<=1):(x+18446744073709551616-lo-b) % 18446744073709551616+lo+b=x+(if x<lo+b then 1 else 0)*18446744073709551616:=by
 split <;> omega
theorem zuI (l:List Nat) (i v m:Nat) (hi:i<m) (h:∀ j,m<=j->l.getD j 0=0):∀ j,m<=j->(l.set i v).getD j 0=0:=fun j hj=>by
 rw[List.getD_eq_getElem?_getD,List.getElem?_set_ne (by omega),<-List.getD_eq_getElem?_getD];exact h j hj
theorem Tk.step {R Y q k n t:Nat} {l:List Nat} {c b:Nat} (h:Tk R Y q k n t l c b) (hq:q<18446744073709551616) (ht:t<n) (hk:k+n<=8) :
 Tk R Y q k n (t+1) (l.set (k+t) ((l.getD (k+t) 0+18446744073709551616-(lim Y t*q+c) % 18446744073709551616-b) % 18446744073709551616)) ((lim Y t*q+c) / 18446744073709551616) (if l.getD (k+t) 0<(lim Y t*q+c) % 18446744073709551616+b then 1 else 0):=by
 have hy:=zbQ Y t
 refine⟨by rw[List.length_set];exact h.len,zfX _ _ _ h.lt (Nat.mod_lt _ (by decide)),?_,by split <;> omega,zuI _ _ _ _ (by omega) h.top,?_⟩
 ·have:=h.cl
  have h1:lim Y t*q<=18446744073709551615*18446744073709551615:=Nat.mul_le_mul (by omega) (by omega)
  refine Nat.div_lt_of_lt_mul ?_
  omega
 ·exact zuX l R Y q c b k t _ _ _ _ _ (by rw[h.len];omega) rfl h.sum (by rw[Nat.mul_comm (_ / _)];exact (Nat.div_add_mod _ _).symm) (sub_eq _ _ _ (get_lt _ _ h.lt) (Nat.mod_lt _ (by decide)) h.bl)
theorem Tk.last {R Y q k n:Nat} {l:List Nat} {c b:Nat} (h:Tk R Y q k n n l c b) (hY:Y<18446744073709551616 ^ n) (hk:k+n<=8) :
 ((if l.getD (k+n) 0<c+b then 1 else 0:Nat)=0 ↔ q*Y*18446744073709551616 ^ k<=R)/\(q*Y*18446744073709551616 ^ k<=R->l.set (k+n) ((l.getD (k+n) 0+18446744073709551616-c-b) % 18446744073709551616)=dgs (R-q*Y*18446744073709551616 ^ k) 9):=by
 have hs:=zuW l R Y q c b k n _ _ _ (by rw[h.len];omega) rfl hY h.sum (sub_eq _ _ _ (get_lt _ _ h.lt) h.cl h.bl)
 have hall:=zfX l (k+n) ((l.getD (k+n) 0+18446744073709551616-c-b) % 18446744073709551616) h.lt (Nat.mod_lt _ (by decide))
 have hX:=znD _ (k+n+1) hall (zuI l (k+n) _ (k+n+1) (by omega) h.top)
 have he:=znO _ R (q*Y*18446744073709551616 ^ k) _ k n (by split <;> omega) hX hs
 refine⟨he.1,fun hle=>?_⟩
 have hd:=zeC _ hall
 rw[List.length_set,h.len,he.2 (he.1.2 hle)] at hd
 exact hd.symm
end Wd
theorem zmA (R Y q k n:Nat) (hk:k+n<=8) (hY:Y<18446744073709551616 ^ n) (hq:q<18446744073709551616) (hR:R<18446744073709551616 ^ (k+n+1)) (w:World) :
 Calls Tryz.prog 107 #[.agg (vQ (dgs R 9)).toArray,.agg (vQ (dgs Y 9)).toArray,.int .i64 (n:Int),.int .u64 (q:Int),.int .i64 (k:Int)] w fun e w'=>∃ l:List Nat,e=.returned (.tuple #[.agg (vQ l).toArray,.bool (decide (q*Y*18446744073709551616 ^ k<=R))])/\l.length=9/\(q*Y*18446744073709551616 ^ k<=R->l=dgs (R-q*Y*18446744073709551616 ^ k) 9)/\Below w.heap.size w w':=by
 have HS:Hid (Tk R Y q k n 0 (dgs R 9) 0 0):=Tk.start R Y q k n hk hR
 have HY:Hid (Y<18446744073709551616 ^ n):=hY
 have HQ:Hid (q<18446744073709551616):=hq
 obtain⟨Z,hZ⟩:∃ Z,Z=q*Y*18446744073709551616 ^ k:=⟨_,rfl⟩
 have HLAST:Hid (∀ (l:List Nat) (c b:Nat),Tk R Y q k n n l c b->((if l.getD (k+n) 0<c+b then 1 else 0:Nat)=0 ↔ Z<=R)/\(Z<=R->l.set (k+n) ((l.getD (k+n) 0+18446744073709551616-c-b) % 18446744073709551616)=dgs (R-Z) 9)):=by rw[hZ];exact fun l c b h=>h.last hY hk
 rw[<-hZ]
 clear hZ hY hq hR
 go_enter Tryz.func107,Tryz.ntmps107
 go_wp2
 go_loopw [12,13,14,15,17] (fun cv bv _ _ i wr=>∃ (t:Nat) (l:List Nat) (c b:Nat),t<=n/\i=.int .i64 (t:Int)/\cv=.int .u64 (c:Int)/\bv=.int .u64 (b:Int)/\Below w.heap.size w wr/\Row wr w.heap.size (vQ l) 144/\Row wr (w.heap.size+1) (vQ (dgs Y 9)) 144/\Row wr (w.heap.size+1+1) (vQ (List.replicate 9 0)) 144/\Hid (Tk R Y q k n t l c b))
  (fun _ _ _ _ i _=>n-(intOf i).toNat)
 case atStart=>
  refine⟨0,dgs R 9,0,0,by omega,rfl,rfl,rfl,(((Below.refl _ _).alloc (Nat.le_refl _) _).alloc (by simp) _).alloc (by simp;omega) _,?_,?_,?_,HS.out⟩
  ·exact ((Row.new' rfl rfl).alloc _).alloc _
  ·exact (Row.new' (by simp) rfl).alloc _
  ·exact Row.new' (by simp) rfl
 case round=>
  obtain⟨t,l,c,b,ht,rfl,rfl,rfl,hb,h5,h6,h10,hN⟩:=hrel
  by_cases hlt:t<n
  ·have g5:=h5.cell (k+t) _ (zbW _ (k+t) (by rw[hN.out.len];omega))
   have gf:=h5.thaw (k+t)
   have g6:=h6.cell t _ (zbW _ t (by rw[zaH];omega))
   rw[zbP _ _ _ (by omega)] at g6
   have HST:Hid _:=hN.out.step HQ.out hlt hk
   have HMA:Hid (∀ w,_):=zjJ (lim Y t) q c (zbQ _ _) HQ.out hN.out.cl
   have H64:Hid (∀ w,_):=ziK (l.getD (k+t) 0) ((lim Y t*q+c) % 18446744073709551616) b hN.out.bl
   have hlt':(t:Int)<(n:Int):=by omega
   have hkt:k+t<9:=by omega
   have ht9:t<9:=by omega
   generalize lim Y t=y at *
   obtain⟨hi,hhi⟩:∃ hi,hi=(y*q+c) / 18446744073709551616:=⟨_,rfl⟩
   obtain⟨lo,hlo⟩:∃ lo,lo=(y*q+c) % 18446744073709551616:=⟨_,rfl⟩
   rw[<-hhi,<-hlo] at HMA HST
   rw[<-hlo] at H64
   obtain⟨x,hx⟩:∃ x,x=l.getD (k+t) 0:=⟨_,rfl⟩
   rw[<-hx] at g5 H64 HST
   obtain⟨v,hv⟩:∃ v,v=(x+18446744073709551616-lo-b) % 18446744073709551616:=⟨_,rfl⟩
   obtain⟨b2,hb2⟩:∃ b2,b2=(if x<lo+b then 1 else 0:Nat):=⟨_,rfl⟩
   rw[<-hv,<-hb2] at H64 HST
   clear hhi hlo hx hv hb2 ht hN
   have h64:=H64.out
   go_wp2_with (go_at_call 102;refine (HMA.out wr).mono ?_;rintro e wr ⟨rfl,rfl⟩)
   refine⟨⟨t+1,l.set (k+t) v,hi,b2,hlt,by go_num,rfl,rfl,Below.setCell hb (by simp) _,?_,h6.set_other _ _ _ (by omega),h10.set_other _ _ _ (by omega),HST.out⟩,by simp [intOf];omega⟩
   have:=h5.set (k+t) (.int .u64 (v:Int))
   rw[zeY] at this
   exact this
  ·have et:t=n:=by omega
   subst et
   clear ht hlt
   have hL:=HLAST.out l c b hN.out
   have g5:=h5.cell (k+t) _ (zbW _ (k+t) (by rw[hN.out.len];omega))
   have gf:=h5.thaw (k+t)
   have H64:Hid (∀ w,_):=ziK (l.getD (k+t) 0) c b hN.out.bl
   have HLL:Hid (l.length=9):=hN.out.len
   have hkt:k+t<9:=by omega
   obtain⟨x,hx⟩:∃ x,x=l.getD (k+t) 0:=⟨_,rfl⟩
   rw[<-hx] at g5 H64 hL
   obtain⟨v,hv⟩:∃ v,v=(x+18446744073709551616-c-b) % 18446744073709551616:=⟨_,rfl⟩
   obtain⟨b2,hb2⟩:∃ b2,b2=(if x<c+b then 1 else 0:Nat):=⟨_,rfl⟩
   rw[<-hv,<-hb2] at H64
   rw[<-hv,<-hb2] at hL
   clear hx hv hb2 HLAST HS HY HQ hN
   have HF:Hid (decide (Z<=R)=decide (b2=0)):=by show _=_;rw[Bool.eq_iff_iff];simp only[decide_eq_true_eq];exact hL.1.symm
   have HD:Hid (Z<=R->l.set (k+t) v=dgs (R-Z) 9):=hL.2
   clear hL
   obtain⟨cs,hcs⟩:∃ cs,cs=vQ (l.set (k+t) v):=⟨_,rfl⟩
   have hl:cs.length=9:=by rw[hcs,zaJ,List.length_set];exact HLL.out
   have r5:Row (wr.setCell ⟨w.heap.size,k+t,none⟩ (.int .u64 (v:Int))) w.heap.size cs 144:=by
    have:=h5.set (k+t) (.int .u64 (v:Int))
    rw[zeY,<-hcs] at this
    exact this
   have r10:=h10.set_other w.heap.size (k+t) (.int .u64 (v:Int)) (by omega)
   have rb:=Below.setCell (p:=⟨w.heap.size,k+t,none⟩) hb (by simp) (.int .u64 (v:Int))
   have i9:(Tryz.prog.info? 144).map (·.size)=some cs.length:=by rw[zcR,hl]
   have i9':(Tryz.prog.info? 144).map (·.size)=some cs.toArray.size:=by rw[zcR];simp [hl]
   have hone:=all_oneCell_toArray (show ∀ v ∈ cs,v.oneCell'=true by rw[hcs];exact zbR _)
   have T:=r10.there 0 cs.toArray.size (by simp [hl,zaJ])
   have fin:=r10.over (vs:=cs) (by rw[hl];rfl)
   have hbf:=zaC rb (b:=w.heap.size+1+1) (o:=0) (by omega) cs
   have HE:Hid (vQ (l.set (k+t) v)=cs):=hcs.symm
   have HL:Hid (cs.length=9):=hl
   clear hcs hl hb rb h10
   have h64:=H64.out
   go_wp2_with (first
    |(refine wpList_load_mid rfl 144 (.tmp 5) rfl w.heap.size 0 rfl cs _ r5.all Tryz.underlying144 rfl i9 ?_;simp only[Act.put,jA,jB,jC])
    |(refine wpList_store_mid rfl 144 (.tmp 10) (.tmp 60) rfl (w.heap.size+1+1) 0 cs.toArray rfl rfl T i9' hone ?_;simp only[Act.put]))
   have eb:((b2:Int)==0)=decide (b2=0):=by rw[Bool.eq_iff_iff];simp
   exact bodyPost_ret (zaM Tryz.results107 _ _ (w.heap.size+1+1) 144 cs (.bool ((b2:Int)==0)) rfl rfl fin Tryz.underlying144 zcR HL.out) rfl ⟨l.set (k+t) v,by rw[HE.out,HF.out,eb],by rw[List.length_set];exact HLL.out,HD.out,hbf⟩
theorem zdI:(Tryz.prog.info? 129).map (·.size)=some 8:=by kernel_rfl
theorem zxG (n:Nat) (hn:n<2 ^ 256):vQ (dgs n 4)++vQ (List.replicate 4 0)=vQ (dgs n 8):=by
 rw[<-zvH]
 congr 1
 have h:=zeC (dgs n 4++List.replicate 4 0) (by
  intro x hx
  rcases List.mem_append.1 hx with h|h
  ·exact zfR _ _ x h
  ·rw[List.eq_of_mem_replicate h];decide)
 have e:num (dgs n 4++List.replicate 4 0)=n:=by
  have h4:n<18446744073709551616 ^ 4:=by simpa using hn
  have:=zdY n 4 h4
  rw[show dgs n 4=[lim n 0,lim n 1,lim n 2,lim n 3] from rfl] at this ⊢
  simp [num,List.replicate] at this ⊢
  exact this
 rw[e] at h
 exact h.symm
theorem zhW (n:Nat) (hn:n<2 ^ 256) (w:World) :
 Calls Tryz.prog 97 #[.agg (vQ (dgs n 4)).toArray] w fun e w'=>e=.returned (.agg (vQ (dgs n 8)).toArray)/\Below w.heap.size w w':=by
 obtain⟨lo,hlo⟩:∃ lo,lo=vQ (dgs n 4):=⟨_,rfl⟩
 obtain⟨cs,hcs⟩:∃ cs,cs=vQ (dgs n 8):=⟨_,rfl⟩
 have HE:Hid (lo++vQ (List.replicate 4 0)=cs):=by rw[hlo,hcs];exact zxG n hn
 have HLL:Hid (lo.length=4):=by show _=_;rw[hlo,zaJ,zaH]
 have HCL:Hid (cs.length=8):=by show _=_;rw[hcs,zaJ,zaH]
 have HO1:Hid (∀ v ∈ lo,v.oneCell'=true):=by rw[hlo];exact zbR _
 have HO2:Hid (∀ v ∈ cs,v.oneCell'=true):=by rw[hcs];exact zbR _
 rw[<-hlo,<-hcs]
 clear hlo hcs
 go_enter Tryz.func97,Tryz.ntmps97
 go_wp2
 have Z:(vQ (List.replicate 8 0)).toArray=#[Value.int IntKind.u64 0,Value.int IntKind.u64 0,Value.int IntKind.u64 0,Value.int IntKind.u64 0,Value.int IntKind.u64 0,Value.int IntKind.u64 0,Value.int IntKind.u64 0,Value.int IntKind.u64 0]:=rfl
 rw[<-Z]
 have hb0:Below w.heap.size w (((w.alloc (Obj.cells lo.toArray 27)).alloc (Obj.cells (vQ (List.replicate 8 0)).toArray 129)).alloc (Obj.cells (vQ (List.replicate 8 0)).toArray 129)):=(((Below.refl _ _).alloc (Nat.le_refl _) _).alloc (by simp) _).alloc (by simp;omega) _
 have r0:Row (((w.alloc (Obj.cells lo.toArray 27)).alloc (Obj.cells (vQ (List.replicate 8 0)).toArray 129)).alloc (Obj.cells (vQ (List.replicate 8 0)).toArray 129)) w.heap.size lo 27:=((Row.new w lo _).alloc _).alloc _
 have r2:Row (((w.alloc (Obj.cells lo.toArray 27)).alloc (Obj.cells (vQ (List.replicate 8 0)).toArray 129)).alloc (Obj.cells (vQ (List.replicate 8 0)).toArray 129)) (w.heap.size+1) (vQ (List.replicate 8 0)) 129:=(Row.new' (by simp) rfl).alloc _
 have r3:Row (((w.alloc (Obj.cells lo.toArray 27)).alloc (Obj.cells (vQ (List.replicate 8 0)).toArray 129)).alloc (Obj.cells (vQ (List.replicate 8 0)).toArray 129)) (w.heap.size+1+1) (vQ (List.replicate 8 0)) 129:=Row.new' (by simp) rfl
 generalize (((w.alloc (Obj.cells lo.toArray 27)).alloc (Obj.cells (vQ (List.replicate 8 0)).toArray 129)).alloc (Obj.cells (vQ (List.replicate 8 0)).toArray 129))=W0 at *
 have HS1:Hid (∀ j v,lo[j]?=some v->(World.drew W0).cell? ((⟨w.heap.size,0,none⟩:Addr).add j)=some v):=by
  intro j v hv
  rw[Addr.add_mid]
  exact r0.all j v hv
 have HT1:Hid ((World.drew W0).there (w.heap.size+1+1) 0 lo.length):=Row.there (Row.drew r3) 0 _ (by rw[HLL.out];decide)
 go_region_law (refine ziI rfl (.tmp 4) (.tmp 5) 141 141 rfl 25 (w.heap.size+1+1) 0 8 8 ⟨w.heap.size,0,none⟩ 4 4 lo rfl rfl Tryz.underlying141 (by kernel_rfl) (by rw[HLL.out];rfl) HS1.out HT1.out HO1.out ?_)
 have hb1:Below w.heap.size w ((World.drew W0).setCells (w.heap.size+1+1) 0 lo):=zaC (Below.drew hb0) (by omega) _
 have q2:Row ((World.drew W0).setCells (w.heap.size+1+1) 0 lo) (w.heap.size+1) (vQ (List.replicate 8 0)) 129:=Row.setCells_other (Row.drew r2) _ _ _ (by omega)
 have q3:Row ((World.drew W0).setCells (w.heap.size+1+1) 0 lo) (w.heap.size+1+1) cs 129:=by
  have:=Row.setCells 0 lo (Row.drew r3) (by rw[HLL.out];decide)
  rw[HLL.out,List.take_zero,List.nil_append,Nat.zero_add,show (vQ (List.replicate 8 0)).drop 4=vQ (List.replicate 4 0) from rfl,HE.out] at this
  exact this
 generalize (World.drew W0).setCells (w.heap.size+1+1) 0 lo=W1 at *
 have i8:(Tryz.prog.info? 129).map (·.size)=some cs.length:=by rw[zdI,HCL.out]
 have i8':(Tryz.prog.info? 129).map (·.size)=some cs.toArray.size:=by rw[zdI];simp [HCL.out]
 have hone:=all_oneCell_toArray HO2.out
 have T:=q2.there 0 cs.toArray.size (by simp [HCL.out,zaJ])
 have fin:=q2.over (vs:=cs) (by rw[HCL.out];rfl)
 have hbf:=zaC hb1 (b:=w.heap.size+1) (o:=0) (by omega) cs
 clear r0 r2 r3 hb0 hb1 HS1 HT1
 go_wp2_with (first
  |(refine wpList_load_mid rfl 129 (.tmp 3) rfl (w.heap.size+1+1) 0 rfl cs _ q3.all Tryz.underlying129 rfl i8 ?_;simp only[Act.put,jA,jB,jC])
  |(refine wpList_store_mid rfl 129 (.tmp 2) (.tmp 7) rfl (w.heap.size+1) 0 cs.toArray rfl rfl T i8' hone ?_;simp only[Act.put]))
 exact bodyPost_ret (zcK Tryz.results97 _ _ (w.heap.size+1) 129 cs rfl fin Tryz.underlying129 zdI HCL.out) rfl ⟨rfl,hbf⟩
theorem zwA (a:Nat) (w:World) :
 Calls Tryz.prog 103 #[.agg (vQ (dgs a 4)).toArray] w fun e w'=>e=.returned (.int .i64 ((ziX a:Nat):Int))/\Below w.heap.size w w':=by
 have R:=Row.new w (vQ (dgs a 4)) 27
 have hB:Below w.heap.size w (w.alloc (Obj.cells (vQ (dgs a 4)).toArray 27)):=(Below.refl _ _).alloc (Nat.le_refl _) _
 go_enter Tryz.func103,Tryz.ntmps103
 go_wp2
 go_loopw [3] (fun i wr=>∃ t:Nat,t<=4/\i=.int .i64 ((t:Int)-1)/\wr=w.alloc (Obj.cells (vQ (dgs a 4)).toArray 27)/\Hid (∀ j,t<=j->j<4->lim a j=0))
  (fun i _=>(intOf i+1).toNat)
 case atStart=>exact⟨4,by omega,rfl,rfl,fun j h1 h2=>by omega⟩
 case round=>
  obtain⟨t,ht,rfl,rfl,hZ⟩:=hrel
  generalize w.alloc (Obj.cells (vQ (dgs a 4)).toArray 27)=W at *
  by_cases hlt:0<t
  ·obtain⟨k,rfl⟩:∃ k,t=k+1:=⟨t-1,by omega⟩
   have hk:k<4:=by omega
   have ei:(((k+1:Nat):Int)-1)=(k:Int):=by omega
   rw[ei]
   have g0:=R.cell k _ (zbW _ k (by rw[zaH];exact hk))
   rw[zbP _ _ _ hk] at g0
   clear ei ht hlt
   by_cases hx:lim a k=0
   ·rw[hx] at g0
    have HX:Hid (lim a k=0):=hx
    clear hx
    go_wp2
    refine⟨⟨k,by omega,by go_num,trivial,fun j h1 h2=>?_⟩,by simp [intOf]⟩
    rcases Nat.eq_or_lt_of_le h1 with h|h
    ·rw[<-h];exact HX.out
    ·exact hZ.out j h h2
   ·have hxi:¬ ((lim a k:Nat):Int)=0:=by omega
    have HLN:Hid (∀ w,_):=zlK (lim a k) (zbQ a k)
    have hbl:Lib.bitLen (lim a k)<=64:=Lib.bitLen_le _ 64 (by decide) (zbQ a k)
    have HR:Hid (ziX a=64*k+Lib.bitLen (lim a k)):=by
     show ziX a=_
     have ht:zeR a=k:=by
      have z:=hZ.out
      unfold zeR
      match k,hk,hx,z with
      |0,_,hx,z=>rw[if_neg (by simp [z 3 (by omega) (by omega)]),if_neg (by simp [z 2 (by omega) (by omega)]),if_neg (by simp [z 1 (by omega) (by omega)])]
      |1,_,hx,z=>rw[if_neg (by simp [z 3 (by omega) (by omega)]),if_neg (by simp [z 2 (by omega) (by omega)]),if_pos hx]
      |2,_,hx,z=>rw[if_neg (by simp [z 3 (by omega) (by omega)]),if_pos hx]
      |3,_,hx,z=>rw[if_pos hx]
     unfold ziX;rw[ht]
    obtain⟨L,hL⟩:∃ L,L=Lib.bitLen (lim a k):=⟨_,rfl⟩
    rw[<-hL] at HLN HR hbl
    clear hL hx hZ
    generalize lim a k=x at *
    go_wp2_with (go_at_call 110;refine (HLN.out W).mono ?_;rintro e w2 ⟨rfl,rfl⟩)
    go_ret
    exact⟨by rw[HR.out];simp,hB⟩
  ·have et:t=0:=by omega
   subst et
   clear ht hlt
   have HR:Hid (ziX a=0):=by
    show ziX a=0
    have z:=hZ.out
    have ht:zeR a=0:=by
     unfold zeR
     rw[if_neg (by simp [z 3 (by omega) (by omega)]),if_neg (by simp [z 2 (by omega) (by omega)]),if_neg (by simp [z 1 (by omega) (by omega)])]
    unfold ziX;rw[ht,z 0 (by omega) (by omega)];rfl
   go_wp2
   go_ret
   exact⟨by rw[HR.out];rfl,hB⟩
theorem zmJ {o:Oper} {a:Act} {w:World} {K:Act->World->Prop} {Q:Exit->Act->World->Prop} (ho:o.op=.alloc 144) (h:K (a.put o.dst (.pointer (some ⟨w.heap.size,0,none⟩))) (w.alloc (.cells (vQ (List.replicate 9 0)).toArray 144))):Oper.wp Tryz.prog o a w K Q:=by
 obtain⟨dst,op,ty,pos,after,guard⟩:=o
 simp only at ho
 subst ho
 unfold Oper.wp
 go_simp
 exact h
theorem zsK (w:World) (m k:Nat):(w.drewN m).drewN k=w.drewN (m+k):=by simp [World.drewN,Nat.add_assoc]
theorem zqH (A b:Nat) (hA:A<18446744073709551616 ^ 8) (hb:b<2 ^ 256) (h0:0<b) (w:World) :
 Calls Tryz.prog 96 #[.agg (vQ (dgs A 8)).toArray,.agg (vQ (dgs b 4)).toArray] w fun e w'=>e=.returned (.tuple #[.agg (vQ (dgs (A / b) 8)).toArray,.agg (vQ (dgs (A % b) 4)).toArray])/\Below w.heap.size w w':=by
 obtain⟨s1,s2,s3,s4⟩:=zpE b hb h0
 have HST:Hid _:=Dv.start A b hb h0 hA
 have hti:=zvE b
 have hnn:=zvD b hb h0
 have HBITS:Hid (∀ w,_):=zwA b
 have HLEAD:Hid (∀ w,_):=zoS (lim b (zeR b)) (zbQ _ _)
 have HUA:Hid (∀ w,_):=ziH A (shf b) hA s1
 have HDB:Hid (∀ w,_):=zhW b hb
 have HUB:Hid (∀ w,_):=ziH b (shf b) (Nat.lt_of_lt_of_le hb (by decide)) s1
 have HEQ:Hid (A / b=A*2 ^ shf b / (b*2 ^ shf b)/\A % b=A*2 ^ shf b % (b*2 ^ shf b) / 2 ^ shf b):=⟨(zjU A b (shf b)).1.symm,(zjU A b (shf b)).2.symm⟩
 have hsh:64-Lib.bitLen (lim b (zeR b))=shf b:=rfl
 rw[hsh] at HLEAD
 clear hsh
 generalize shf b=s at *
 generalize ziX b=L at *
 obtain⟨i,hi⟩:∃ i,i=zeR b:=⟨_,rfl⟩
 rw[<-hi] at hti hnn HLEAD s2 s3 s4 HST
 clear hi
 obtain⟨Y,hY⟩:∃ Y,Y=b*2 ^ s:=⟨_,rfl⟩
 obtain⟨A',hA'⟩:∃ A',A'=A*2 ^ s:=⟨_,rfl⟩
 rw[<-hY] at s2 s3 s4 HST HUB HEQ
 rw[<-hA'] at HST HUA HEQ
 obtain⟨n,hn⟩:∃ n,n=i+1:=⟨_,rfl⟩
 rw[<-hn] at hnn s2 HST
 obtain⟨ca,hca⟩:∃ ca,ca=vQ (dgs A 8):=⟨_,rfl⟩
 obtain⟨cb,hcb⟩:∃ cb,cb=vQ (dgs b 4):=⟨_,rfl⟩
 have gB:=zbW (dgs b 4) i (by rw[zaH];omega)
 rw[zbP _ _ _ (by omega),<-hcb] at gB
 obtain⟨cu,hcu⟩:∃ cu,cu=vQ (dgs A' 9):=⟨_,rfl⟩
 obtain⟨cy,hcy⟩:∃ cy,cy=vQ (dgs Y 9):=⟨_,rfl⟩
 obtain⟨cd,hcd⟩:∃ cd,cd=vQ (dgs b 8):=⟨_,rfl⟩
 rw[<-hca,<-hcu] at HUA
 rw[<-hcb,<-hcd] at HDB
 rw[<-hcd,<-hcy] at HUB
 rw[<-hcb] at HBITS
 rw[<-hca,<-hcb]
 have la:ca.length=8:=by rw[hca,zaJ,zaH]
 have lb:cb.length=4:=by rw[hcb,zaJ,zaH]
 have ia:(Tryz.prog.info? 129).map (·.size)=some ca.length:=by rw[zdI,la]
 have ib:(Tryz.prog.info? 27).map (·.size)=some cb.length:=by rw[zaL,lb]
 generalize lim b i=bt at *
 have HN:Hid (n=i+1):=hn
 have HA8:Hid (A' / Y<18446744073709551616 ^ 8):=by show _<_;rw[<-HEQ.out.1];exact Nat.lt_of_le_of_lt (Nat.div_le_self _ _) hA
 have lcu:cu.length=9:=by rw[hcu,zaJ,zaH]
 have lcy:cy.length=9:=by rw[hcy,zaJ,zaH]
 have icu:(Tryz.prog.info? 144).map (·.size)=some cu.toArray.size:=by rw[zcR];simp [lcu]
 have icy:(Tryz.prog.info? 144).map (·.size)=some cy.toArray.size:=by rw[zcR];simp [lcy]
 have ocu:=all_oneCell_toArray (show ∀ v ∈ cu,v.oneCell'=true by rw[hcu];exact zbR _)
 have ocy:=all_oneCell_toArray (show ∀ v ∈ cy,v.oneCell'=true by rw[hcy];exact zbR _)
 have HCU:Hid (cu=vQ (dgs A' 9)):=hcu
 have HCY:Hid (cy=vQ (dgs Y 9)):=hcy
 have eN:((L:Int)+63) / 64=(n:Int):=by omega
 have eI:(n:Int)-1=(i:Int):=by omega
 have hi4:i<4:=by omega
 clear hA hb h0 hcd hca hcb la lb hY hA' s4 hn hnn hcu hcy
 have rA:Row ((w.alloc (Obj.cells ca.toArray 129)).alloc (Obj.cells cb.toArray 27)) w.heap.size ca 129:=(Row.new w ca _).alloc _
 have rB:Row ((w.alloc (Obj.cells ca.toArray 129)).alloc (Obj.cells cb.toArray 27)) (w.heap.size+1) cb 27:=Row.new' (by simp) rfl
 go_enter Tryz.func96,Tryz.ntmps96
 go_wp2
 go_step3
 have hb0:Below w.heap.size w ((((w.alloc (Obj.cells ca.toArray 129)).alloc (Obj.cells cb.toArray 27)).alloc (Obj.cells (vQ (List.replicate 8 0)).toArray 129)).alloc (Obj.cells (vQ (List.replicate 4 0)).toArray 27)):=((((Below.refl _ _).alloc (Nat.le_refl _) _).alloc (by simp) _).alloc (by simp;omega) _).alloc (by simp;omega) _
 have r0:=Row.alloc (Row.alloc rA (Obj.cells (vQ (List.replicate 8 0)).toArray 129)) (Obj.cells (vQ (List.replicate 4 0)).toArray 27)
 have r1:=Row.alloc (Row.alloc rB (Obj.cells (vQ (List.replicate 8 0)).toArray 129)) (Obj.cells (vQ (List.replicate 4 0)).toArray 27)
 have r2:Row ((((w.alloc (Obj.cells ca.toArray 129)).alloc (Obj.cells cb.toArray 27)).alloc (Obj.cells (vQ (List.replicate 8 0)).toArray 129)).alloc (Obj.cells (vQ (List.replicate 4 0)).toArray 27)) (w.heap.size+1+1) (vQ (List.replicate 8 0)) 129:=(Row.new' (by simp) rfl).alloc _
 have r3:Row ((((w.alloc (Obj.cells ca.toArray 129)).alloc (Obj.cells cb.toArray 27)).alloc (Obj.cells (vQ (List.replicate 8 0)).toArray 129)).alloc (Obj.cells (vQ (List.replicate 4 0)).toArray 27)) (w.heap.size+1+1+1) (vQ (List.replicate 4 0)) 27:=Row.new' (by simp) rfl
 have Z8:(vQ (List.replicate 8 0)).toArray=#[Value.int IntKind.u64 0,Value.int IntKind.u64 0,Value.int IntKind.u64 0,Value.int IntKind.u64 0,Value.int IntKind.u64 0,Value.int IntKind.u64 0,Value.int IntKind.u64 0,Value.int IntKind.u64 0]:=rfl
 have Z4:(vQ (List.replicate 4 0)).toArray=#[Value.int IntKind.u64 0,Value.int IntKind.u64 0,Value.int IntKind.u64 0,Value.int IntKind.u64 0]:=rfl
 rw[<-Z8,<-Z4]
 generalize ((((w.alloc (Obj.cells ca.toArray 129)).alloc (Obj.cells cb.toArray 27)).alloc (Obj.cells (vQ (List.replicate 8 0)).toArray 129)).alloc (Obj.cells (vQ (List.replicate 4 0)).toArray 27))=W0 at *
 clear rA rB Z8 Z4
 go_wp2_with (refine wpList_load_mid rfl 27 (.tmp 3) rfl (w.heap.size+1) 0 rfl cb _ r1.all Tryz.underlying27 rfl ib ?_;simp only[Act.put,jA,jB,jC])
 refine (HBITS.out W0).mono ?_
 rintro e W1 ⟨rfl,hB1⟩
 have hb1:=hb0.trans (hB1.mono hb0.size)
 replace r0:=Row.below r0 hB1 (Row.lt r0)
 replace r1:=Row.below r1 hB1 (Row.lt r1)
 replace r2:=Row.below r2 hB1 (Row.lt r2)
 replace r3:=Row.below r3 hB1 (Row.lt r3)
 clear hB1 hb0
 have gb:=r1.cell i _ gB
 go_wp2_with (go_at_call 104;refine (HLEAD.out W1).mono ?_;rintro e w2 ⟨rfl,rfl⟩)
 refine zcU (by kernel_rfl) (fun listed a W=>∃ (b0 b1 b2 b3 b4 b5 b6 b7 b8 b9 b10:Bool) (N8 N9:Nat) (x8 x9 x24 x25 x26 x27 x28 x29 x30:Value),listed=#[b0,b1,b2,b3,b4,b5,b6,b7,b8,b9,b10]/\a={ tmps:=#[.agg ca.toArray,.agg cb.toArray,.pointer (some ⟨w.heap.size,0,none⟩),.pointer (some ⟨w.heap.size+1,0,none⟩),.pointer (some ⟨w.heap.size+1+1,0,none⟩),.pointer (some ⟨w.heap.size+1+1+1,0,none⟩),.int .i64 (n:Int),.int .i64 (s:Int),x8,x9,undef,undef,undef,undef,undef,.agg cb.toArray,.int .i64 (L:Int),.int .i64 ((L:Int)+63),.int .i64 (n:Int),.int .i64 (n:Int),.int .i64 (i:Int),.pointer (some ⟨w.heap.size+1,i,none⟩),.int .u64 (bt:Int),.int .i64 (s:Int),x24,x25,x26,x27,x28,x29,x30,undef,undef,undef,undef,undef,undef,undef,undef,undef,undef,undef,undef,undef,undef,undef,undef,undef,undef,undef,undef,undef,undef,undef,undef,undef,undef,undef,undef,undef,undef,undef,undef,undef,undef,undef,undef,undef,undef,undef,undef,undef,undef],defers:=[] }/\Below w.heap.size w W/\Row W w.heap.size ca 129/\Row W (w.heap.size+1) cb 27/\Row W (w.heap.size+1+1) (vQ (List.replicate 8 0)) 129/\Row W (w.heap.size+1+1+1) (vQ (List.replicate 4 0)) 27/\(b0=true->x24=.agg ca.toArray)/\(b1=true->x25=.int .i64 (s:Int))/\(b2=true->x26=.agg cu.toArray)/\(b3=true->x27=.agg cb.toArray)/\(b4=true->x28=.agg cd.toArray)/\(b5=true->x29=.int .i64 (s:Int))/\(b6=true->x30=.agg cy.toArray)/\(b7=true->x8=.pointer (some ⟨N8,0,none⟩)/\w.heap.size+1+1+1<N8/\Row W N8 (if b9=true then cu else (vQ (List.replicate 9 0))) 144)/\(b8=true->x9=.pointer (some ⟨N9,0,none⟩)/\w.heap.size+1+1+1<N9/\Row W N9 (if b10=true then cy else (vQ (List.replicate 9 0))) 144)/\(b7=true->b8=true->N8≠N9)/\(b9=true->b7=true)/\(b10=true->b8=true)) ?_ ?_ ?_
 ·exact⟨false,false,false,false,false,false,false,false,false,false,false,0,0,undef,undef,undef,undef,undef,undef,undef,undef,undef,rfl,rfl,Below.drew hb1,Row.drew r0,Row.drew r1,Row.drew r2,Row.drew r3,(fun h=>by cases h),(fun h=>by cases h),(fun h=>by cases h),(fun h=>by cases h),(fun h=>by cases h),(fun h=>by cases h),(fun h=>by cases h),(fun h=>by cases h),(fun h=>by cases h),(fun h=>by cases h),(fun h=>by cases h),(fun h=>by cases h)⟩
 ·clear hb1 r0 r1 r2 r3 gb
  intro listed a W k hI hk
  obtain⟨b0,b1,b2,b3,b4,b5,b6,b7,b8,b9,b10,N8,N9,x8,x9,x24,x25,x26,x27,x28,x29,x30,rfl,rfl,hb1,r0,r1,r2,r3,f0,f1,f2,f3,f4,f5,f6,f7,f8,f9,f10,f11⟩:=hI
  have hk2:=(List.mem_filter.1 hk).2
  have hk1:k<11:=List.mem_range.1 (List.mem_filter.1 hk).1
  clear hk
  rcases (show k=0\/k=1\/k=2\/k=3\/k=4\/k=5\/k=6\/k=7\/k=8\/k=9\/k=10 by omega) with rfl|rfl|rfl|rfl|rfl|rfl|rfl|rfl|rfl|rfl|rfl
  ·exact zaE rfl rfl (wp_load_mid 129 (.tmp 2) rfl w.heap.size 0 rfl ca _ r0.all Tryz.underlying129 rfl ia ⟨true,b1,b2,b3,b4,b5,b6,b7,b8,b9,b10,N8,N9,x8,x9,.agg ca.toArray,x25,x26,x27,x28,x29,x30,rfl,rfl,hb1,r0,r1,r2,r3,fun _=>rfl,f1,f2,f3,f4,f5,f6,f7,f8,f9,f10,f11⟩)
  ·exact zaE rfl rfl (ziV (.tmp 7) rfl ⟨b0,true,b2,b3,b4,b5,b6,b7,b8,b9,b10,N8,N9,x8,x9,x24,.int .i64 (s:Int),x26,x27,x28,x29,x30,rfl,rfl,hb1,r0,r1,r2,r3,f0,fun _=>rfl,f2,f3,f4,f5,f6,f7,f8,f9,f10,f11⟩)
  ·simp [Region.binds] at hk2
   obtain rfl:=f0 (by simp [hk2])
   obtain rfl:=f1 (by simp [hk2])
   refine zaE rfl rfl (zeU 105 #[.agg ca.toArray,.int .i64 (s:Int)] (by go_simp) ((HUA.out W).mono ?_))
   rintro e W2 ⟨rfl,hB2⟩
   exact⟨_,rfl,b0,b1,true,b3,b4,b5,b6,b7,b8,b9,b10,N8,N9,x8,x9,.agg ca.toArray,.int .i64 (s:Int),.agg cu.toArray,x27,x28,x29,x30,rfl,rfl,hb1.trans (hB2.mono hb1.size),Row.below r0 hB2 (Row.lt r0),Row.below r1 hB2 (Row.lt r1),Row.below r2 hB2 (Row.lt r2),Row.below r3 hB2 (Row.lt r3),fun _=>rfl,fun _=>rfl,fun _=>rfl,f3,f4,f5,f6,fun h=>⟨(f7 h).1,(f7 h).2.1,Row.below (f7 h).2.2 hB2 (Row.lt (f7 h).2.2)⟩,fun h=>⟨(f8 h).1,(f8 h).2.1,Row.below (f8 h).2.2 hB2 (Row.lt (f8 h).2.2)⟩,f9,f10,f11⟩
  ·exact zaE rfl rfl (wp_load_mid 27 (.tmp 3) rfl (w.heap.size+1) 0 rfl cb _ r1.all Tryz.underlying27 rfl ib ⟨b0,b1,b2,true,b4,b5,b6,b7,b8,b9,b10,N8,N9,x8,x9,x24,x25,x26,.agg cb.toArray,x28,x29,x30,rfl,rfl,hb1,r0,r1,r2,r3,f0,f1,f2,fun _=>rfl,f4,f5,f6,f7,f8,f9,f10,f11⟩)
  ·simp [Region.binds] at hk2
   obtain rfl:=f3 (by simp [hk2])
   refine zaE rfl rfl (zeU 97 #[.agg cb.toArray] (by go_simp) ((HDB.out W).mono ?_))
   rintro e W2 ⟨rfl,hB2⟩
   exact⟨_,rfl,b0,b1,b2,b3,true,b5,b6,b7,b8,b9,b10,N8,N9,x8,x9,x24,x25,x26,.agg cb.toArray,.agg cd.toArray,x29,x30,rfl,rfl,hb1.trans (hB2.mono hb1.size),Row.below r0 hB2 (Row.lt r0),Row.below r1 hB2 (Row.lt r1),Row.below r2 hB2 (Row.lt r2),Row.below r3 hB2 (Row.lt r3),f0,f1,f2,fun _=>rfl,fun _=>rfl,f5,f6,fun h=>⟨(f7 h).1,(f7 h).2.1,Row.below (f7 h).2.2 hB2 (Row.lt (f7 h).2.2)⟩,fun h=>⟨(f8 h).1,(f8 h).2.1,Row.below (f8 h).2.2 hB2 (Row.lt (f8 h).2.2)⟩,f9,f10,f11⟩
  ·exact zaE rfl rfl (ziV (.tmp 7) rfl ⟨b0,b1,b2,b3,b4,true,b6,b7,b8,b9,b10,N8,N9,x8,x9,x24,x25,x26,x27,x28,.int .i64 (s:Int),x30,rfl,rfl,hb1,r0,r1,r2,r3,f0,f1,f2,f3,f4,fun _=>rfl,f6,f7,f8,f9,f10,f11⟩)
  ·simp [Region.binds] at hk2
   obtain rfl:=f4 (by simp [hk2])
   obtain rfl:=f5 (by simp [hk2])
   refine zaE rfl rfl (zeU 105 #[.agg cd.toArray,.int .i64 (s:Int)] (by go_simp) ((HUB.out W).mono ?_))
   rintro e W2 ⟨rfl,hB2⟩
   exact⟨_,rfl,b0,b1,b2,b3,b4,b5,true,b7,b8,b9,b10,N8,N9,x8,x9,x24,x25,x26,x27,.agg cd.toArray,.int .i64 (s:Int),.agg cy.toArray,rfl,rfl,hb1.trans (hB2.mono hb1.size),Row.below r0 hB2 (Row.lt r0),Row.below r1 hB2 (Row.lt r1),Row.below r2 hB2 (Row.lt r2),Row.below r3 hB2 (Row.lt r3),f0,f1,f2,f3,fun _=>rfl,fun _=>rfl,fun _=>rfl,fun h=>⟨(f7 h).1,(f7 h).2.1,Row.below (f7 h).2.2 hB2 (Row.lt (f7 h).2.2)⟩,fun h=>⟨(f8 h).1,(f8 h).2.1,Row.below (f8 h).2.2 hB2 (Row.lt (f8 h).2.2)⟩,f9,f10,f11⟩
  ·simp [Region.binds] at hk2
   have hsz:w.heap.size+1+1+1<W.heap.size:=Row.lt r3
   have hbz:¬ b9=true:=fun h=>by have:=f10 h;rw[hk2] at this;cases this
   exact zaE rfl rfl (zmJ rfl ⟨b0,b1,b2,b3,b4,b5,b6,true,b8,b9,b10,W.heap.size,N9,.pointer (some ⟨W.heap.size,0,none⟩),x9,x24,x25,x26,x27,x28,x29,x30,rfl,rfl,hb1.alloc hb1.size _,Row.alloc r0 _,Row.alloc r1 _,Row.alloc r2 _,Row.alloc r3 _,f0,f1,f2,f3,f4,f5,f6,fun _=>⟨rfl,hsz,by rw[if_neg hbz];exact Row.new' rfl rfl⟩,fun h=>⟨(f8 h).1,(f8 h).2.1,Row.alloc (f8 h).2.2 _⟩,fun _ h=>Nat.ne_of_gt (Row.lt (f8 h).2.2),fun _=>rfl,f11⟩)
  ·simp [Region.binds] at hk2
   have hsz:w.heap.size+1+1+1<W.heap.size:=Row.lt r3
   have hbz:¬ b10=true:=fun h=>by have:=f11 h;rw[hk2] at this;cases this
   exact zaE rfl rfl (zmJ rfl ⟨b0,b1,b2,b3,b4,b5,b6,b7,true,b9,b10,N8,W.heap.size,x8,.pointer (some ⟨W.heap.size,0,none⟩),x24,x25,x26,x27,x28,x29,x30,rfl,rfl,hb1.alloc hb1.size _,Row.alloc r0 _,Row.alloc r1 _,Row.alloc r2 _,Row.alloc r3 _,f0,f1,f2,f3,f4,f5,f6,fun h=>⟨(f7 h).1,(f7 h).2.1,Row.alloc (f7 h).2.2 _⟩,fun _=>⟨rfl,hsz,by rw[if_neg hbz];exact Row.new' rfl rfl⟩,fun h _=>Nat.ne_of_lt (Row.lt (f7 h).2.2),f10,fun _=>rfl⟩)
  ·simp [Region.binds] at hk2
   obtain rfl:b7=true:=by simp [hk2]
   obtain rfl:b2=true:=by simp [hk2]
   obtain rfl:b9=false:=by simp [hk2]
   obtain⟨rfl,g1,g2⟩:=f7 rfl
   obtain rfl:=f2 rfl
   rw[if_neg (by decide)] at g2
   have T:=g2.there 0 cu.toArray.size (by simp [lcu,zaJ])
   have fin:=g2.over (vs:=cu) (by rw[lcu];rfl)
   exact zaE rfl rfl (wp_store_mid 144 (.tmp 8) (.tmp 26) rfl N8 0 cu.toArray rfl rfl T icu ocu ⟨b0,b1,true,b3,b4,b5,b6,true,b8,true,b10,N8,N9,.pointer (some ⟨N8,0,none⟩),x9,x24,x25,.agg cu.toArray,x27,x28,x29,x30,rfl,rfl,zaC hb1 (by omega) _,Row.setCells_other r0 _ _ _ (by omega),Row.setCells_other r1 _ _ _ (by omega),Row.setCells_other r2 _ _ _ (by omega),Row.setCells_other r3 _ _ _ (by omega),f0,f1,f2,f3,f4,f5,f6,fun _=>⟨rfl,g1,by rw[if_pos rfl];exact fin⟩,fun h=>⟨(f8 h).1,(f8 h).2.1,Row.setCells_other (f8 h).2.2 _ _ _ (Ne.symm (f9 rfl h))⟩,f9,fun _=>rfl,f11⟩)
  ·simp [Region.binds] at hk2
   obtain rfl:b8=true:=by simp [hk2]
   obtain rfl:b6=true:=by simp [hk2]
   obtain rfl:b10=false:=by simp [hk2]
   obtain⟨rfl,g1,g2⟩:=f8 rfl
   obtain rfl:=f6 rfl
   rw[if_neg (by decide)] at g2
   have T:=g2.there 0 cy.toArray.size (by simp [lcy,zaJ])
   have fin:=g2.over (vs:=cy) (by rw[lcy];rfl)
   exact zaE rfl rfl (wp_store_mid 144 (.tmp 9) (.tmp 30) rfl N9 0 cy.toArray rfl rfl T icy ocy ⟨b0,b1,b2,b3,b4,b5,true,b7,true,b9,true,N8,N9,x8,.pointer (some ⟨N9,0,none⟩),x24,x25,x26,x27,x28,x29,.agg cy.toArray,rfl,rfl,zaC hb1 (by omega) _,Row.setCells_other r0 _ _ _ (by omega),Row.setCells_other r1 _ _ _ (by omega),Row.setCells_other r2 _ _ _ (by omega),Row.setCells_other r3 _ _ _ (by omega),f0,f1,f2,f3,f4,f5,f6,fun h=>⟨(f7 h).1,(f7 h).2.1,Row.setCells_other (f7 h).2.2 _ _ _ (f9 h rfl)⟩,fun _=>⟨rfl,g1,by rw[if_pos rfl];exact fin⟩,f9,f10,fun _=>rfl⟩)
 ·clear hb1 r0 r1 r2 r3 gb
  intro listed a W hI hr
  obtain⟨b0,b1,b2,b3,b4,b5,b6,b7,b8,b9,b10,N8,N9,x8,x9,x24,x25,x26,x27,x28,x29,x30,rfl,rfl,hb1,r0,r1,r2,r3,f0,f1,f2,f3,f4,f5,f6,f7,f8,f9,f10,f11⟩:=hI
  have hr2:=List.filter_eq_nil_iff.1 hr
  obtain rfl:b0=true:=by have:=hr2 0 (List.mem_range.2 (by decide));simpa [Region.binds] using this
  obtain rfl:b1=true:=by have:=hr2 1 (List.mem_range.2 (by decide));simpa [Region.binds] using this
  obtain rfl:b3=true:=by have:=hr2 3 (List.mem_range.2 (by decide));simpa [Region.binds] using this
  obtain rfl:b5=true:=by have:=hr2 5 (List.mem_range.2 (by decide));simpa [Region.binds] using this
  obtain rfl:b7=true:=by have:=hr2 7 (List.mem_range.2 (by decide));simpa [Region.binds] using this
  obtain rfl:b8=true:=by have:=hr2 8 (List.mem_range.2 (by decide));simpa [Region.binds] using this
  obtain rfl:b2=true:=by have:=hr2 2 (List.mem_range.2 (by decide));simpa [Region.binds] using this
  obtain rfl:b4=true:=by have:=hr2 4 (List.mem_range.2 (by decide));simpa [Region.binds] using this
  obtain rfl:b6=true:=by have:=hr2 6 (List.mem_range.2 (by decide));simpa [Region.binds] using this
  obtain rfl:b9=true:=by have:=hr2 9 (List.mem_range.2 (by decide));simpa [Region.binds] using this
  obtain rfl:b10=true:=by have:=hr2 10 (List.mem_range.2 (by decide));simpa [Region.binds] using this
  obtain⟨rfl,n8,p8⟩:=f7 rfl
  obtain⟨rfl,n9,p9⟩:=f8 rfl
  have hne:=f9 rfl rfl
  rw[if_pos rfl,HCU.out] at p8
  rw[if_pos rfl,HCY.out] at p9
  clear hr hr2 f0 f1 f2 f3 f4 f5 f6 f7 f8 f9 f10 f11 icu icy ocu ocy lcu lcy HCU HCY HUA HUB HDB HBITS HLEAD ia ib gB eN r0 r1
  go_wp2
  go_step3
  have q2:=Row.alloc r2 (Obj.cells (vQ (List.replicate 8 0)).toArray 129)
  have q3:=Row.alloc r3 (Obj.cells (vQ (List.replicate 8 0)).toArray 129)
  have q8:=Row.alloc p8 (Obj.cells (vQ (List.replicate 8 0)).toArray 129)
  have q9:=Row.alloc p9 (Obj.cells (vQ (List.replicate 8 0)).toArray 129)
  have q10:Row (W.alloc (Obj.cells (vQ (List.replicate 8 0)).toArray 129)) W.heap.size (vQ (dgs 0 8)) 129:=by rw[zcP];exact Row.new' rfl rfl
  have hb2:=hb1.alloc hb1.size (Obj.cells (vQ (List.replicate 8 0)).toArray 129)
  have l8:=Row.lt p8
  have l9:=Row.lt p9
  have Z8:(vQ (List.replicate 8 0)).toArray=#[Value.int IntKind.u64 0,Value.int IntKind.u64 0,Value.int IntKind.u64 0,Value.int IntKind.u64 0,Value.int IntKind.u64 0,Value.int IntKind.u64 0,Value.int IntKind.u64 0,Value.int IntKind.u64 0]:=rfl
  rw[<-Z8]
  generalize W.alloc (Obj.cells (vQ (List.replicate 8 0)).toArray 129)=W2 at *
  clear r2 r3 p8 p9 hb1 Z8
  generalize W.heap.size=M at *
  have hn8:n<=8:=by have:=HN.out;omega
  go_wp2
  go_loopg [11] (9-n) (fun g v Wx=>∃ (R Q:Nat),v=.int .i64 ((g:Int)-1)/\Below w.heap.size w Wx/\Row Wx (w.heap.size+1+1) (vQ (List.replicate 8 0)) 129/\Row Wx (w.heap.size+1+1+1) (vQ (List.replicate 4 0)) 27/\Row Wx N8 (vQ (dgs R 9)) 144/\Row Wx N9 (vQ (dgs Y 9)) 144/\Row Wx M (vQ (dgs Q 8)) 129/\Hid (g<=9-n/\Dv A' Y R Q g))
  case atStart=>exact⟨A',0,by congr 1;omega,hb2,q2,q3,q8,q9,q10,Nat.le_refl _,HST.out⟩
  case round=>
   clear hb2 q2 q3 q8 q9 q10 HST
   obtain⟨R,Q,rfl,hb2,q2,q3,q8,q9,q10,hD⟩:=hrel
   cases gk with
   |zero=>
    have hDn:=Dv.done hD.out.2
    have e0:(((0:Nat):Int)-1)=-1:=rfl
    rw[e0]
    have HQ:Hid (Q=A / b/\R / 2 ^ s=A % b):=⟨by rw[HEQ.out.1];exact hDn.1,by rw[HEQ.out.2,<-hDn.2]⟩
    clear hDn hD e0
    go_wp2
    refine zeB fun a0 ha0=>?_
    have e10:a0.eval (.tmp 10)=.pointer (some ⟨M,0,none⟩):=by rw[ha0];rfl
    have e8:a0.eval (.tmp 8)=.pointer (some ⟨N8,0,none⟩):=by rw[ha0];rfl
    have e7:a0.eval (.tmp 7)=.int .i64 (s:Int):=by rw[ha0];rfl
    have e4:a0.eval (.tmp 4)=.pointer (some ⟨w.heap.size+1+1,0,none⟩):=by rw[ha0];rfl
    have e5:a0.eval (.tmp 5)=.pointer (some ⟨w.heap.size+1+1+1,0,none⟩):=by rw[ha0];rfl
    have hsz:a0.tmps.size=73:=by rw[ha0];rfl
    have hdf:a0.defers=[]:=by rw[ha0]
    clear ha0
    have HSD:Hid (∀ w,_):=zkH R s s1
    rw[HQ.out.2] at HSD
    rw[HQ.out.1] at q10
    obtain⟨cq,hcq⟩:∃ cq,cq=vQ (dgs (A / b) 8):=⟨_,rfl⟩
    obtain⟨cr,hcr⟩:∃ cr,cr=vQ (dgs R 9):=⟨_,rfl⟩
    obtain⟨cs,hcs⟩:∃ cs,cs=vQ (dgs (A % b) 4):=⟨_,rfl⟩
    have lq:cq.length=8:=by rw[hcq,zaJ,zaH]
    have lr:cr.length=9:=by rw[hcr,zaJ,zaH]
    have ls:cs.length=4:=by rw[hcs,zaJ,zaH]
    have iq:(Tryz.prog.info? 129).map (·.size)=some cq.length:=by rw[zdI,lq]
    have iq':(Tryz.prog.info? 129).map (·.size)=some cq.toArray.size:=by rw[zdI];simp [lq]
    have ir:(Tryz.prog.info? 144).map (·.size)=some cr.length:=by rw[zcR,lr]
    have is':(Tryz.prog.info? 27).map (·.size)=some cs.toArray.size:=by rw[zaL];simp [ls]
    have oq:=all_oneCell_toArray (show ∀ v ∈ cq,v.oneCell'=true by rw[hcq];exact zbR _)
    have os:=all_oneCell_toArray (show ∀ v ∈ cs,v.oneCell'=true by rw[hcs];exact zbR _)
    have HCQ:Hid (vQ (dgs (A / b) 8)=cq):=hcq.symm
    have HCS:Hid (vQ (dgs (A % b) 4)=cs):=hcs.symm
    rw[<-hcr,<-hcs] at HSD
    rw[<-hcr] at q8
    rw[<-hcq] at q10
    clear hcq hcr hcs
    refine zcU (by kernel_rfl) (fun listed a W=>∃ (b0 b1 b2 b3 b4 b5:Bool),listed=#[b0,b1,b2,b3,b4,b5]/\a.tmps.size=73/\a.defers=[]/\a.eval (.tmp 10)=.pointer (some ⟨M,0,none⟩)/\a.eval (.tmp 8)=.pointer (some ⟨N8,0,none⟩)/\a.eval (.tmp 7)=.int .i64 (s:Int)/\a.eval (.tmp 4)=.pointer (some ⟨w.heap.size+1+1,0,none⟩)/\a.eval (.tmp 5)=.pointer (some ⟨w.heap.size+1+1+1,0,none⟩)/\(b0=true->a.eval (.tmp 69)=.agg cq.toArray)/\(b1=true->a.eval (.tmp 70)=.agg cr.toArray)/\(b2=true->a.eval (.tmp 71)=.int .i64 (s:Int))/\(b3=true->a.eval (.tmp 72)=.agg cs.toArray)/\Below w.heap.size w W/\Row W N8 cr 144/\Row W M cq 129/\Row W (w.heap.size+1+1) (if b4=true then cq else vQ (List.replicate 8 0)) 129/\Row W (w.heap.size+1+1+1) (if b5=true then cs else vQ (List.replicate 4 0)) 27) ?_ ?_ ?_
    ·exact⟨false,false,false,false,false,false,rfl,hsz,hdf,e10,e8,e7,e4,e5,(fun h=>by cases h),(fun h=>by cases h),(fun h=>by cases h),(fun h=>by cases h),Below.drew hb2,Row.drew q8,Row.drew q10,Row.drew q2,Row.drew q3⟩
    ·clear hb2 q2 q3 q8 q9 q10 hsz hdf e10 e8 e7 e4 e5
     intro listed a W k hI hk
     obtain⟨b0,b1,b2,b3,b4,b5,rfl,hsz,hdf,e10,e8,e7,e4,e5,g0,g1,g2,g3,hb2,q8,q10,q2,q3⟩:=hI
     have hk2:=(List.mem_filter.1 hk).2
     have hk1:k<6:=List.mem_range.1 (List.mem_filter.1 hk).1
     clear hk
     rcases (show k=0\/k=1\/k=2\/k=3\/k=4\/k=5 by omega) with rfl|rfl|rfl|rfl|rfl|rfl
     ·exact zaE rfl rfl (wp_load_mid 129 (.tmp 10) rfl M 0 e10 cq _ q10.all Tryz.underlying129 rfl iq ⟨true,b1,b2,b3,b4,b5,rfl,((zgO a (some 69) _).trans hsz),((zeJ a (some 69) _).trans hdf),((zaB (d:=69) a _ (by decide)).trans e10),((zaB (d:=69) a _ (by decide)).trans e8),((zaB (d:=69) a _ (by decide)).trans e7),((zaB (d:=69) a _ (by decide)).trans e4),((zaB (d:=69) a _ (by decide)).trans e5),fun _=>zaR (d:=69) a _ (by rw[hsz];decide),fun h=>((zaB (d:=69) a _ (by decide)).trans (g1 h)),fun h=>((zaB (d:=69) a _ (by decide)).trans (g2 h)),fun h=>((zaB (d:=69) a _ (by decide)).trans (g3 h)),hb2,q8,q10,q2,q3⟩)
     ·exact zaE rfl rfl (wp_load_mid 144 (.tmp 8) rfl N8 0 e8 cr _ q8.all Tryz.underlying144 rfl ir ⟨b0,true,b2,b3,b4,b5,rfl,((zgO a (some 70) _).trans hsz),((zeJ a (some 70) _).trans hdf),((zaB (d:=70) a _ (by decide)).trans e10),((zaB (d:=70) a _ (by decide)).trans e8),((zaB (d:=70) a _ (by decide)).trans e7),((zaB (d:=70) a _ (by decide)).trans e4),((zaB (d:=70) a _ (by decide)).trans e5),fun h=>((zaB (d:=70) a _ (by decide)).trans (g0 h)),fun _=>zaR (d:=70) a _ (by rw[hsz];decide),fun h=>((zaB (d:=70) a _ (by decide)).trans (g2 h)),fun h=>((zaB (d:=70) a _ (by decide)).trans (g3 h)),hb2,q8,q10,q2,q3⟩)
     ·refine zaE rfl rfl (ziV (.tmp 7) rfl ?_)
      rw[e7]
      exact⟨b0,b1,true,b3,b4,b5,rfl,((zgO a (some 71) _).trans hsz),((zeJ a (some 71) _).trans hdf),((zaB (d:=71) a _ (by decide)).trans e10),((zaB (d:=71) a _ (by decide)).trans e8),((zaB (d:=71) a _ (by decide)).trans e7),((zaB (d:=71) a _ (by decide)).trans e4),((zaB (d:=71) a _ (by decide)).trans e5),fun h=>((zaB (d:=71) a _ (by decide)).trans (g0 h)),fun h=>((zaB (d:=71) a _ (by decide)).trans (g1 h)),fun _=>zaR (d:=71) a _ (by rw[hsz];decide),fun h=>((zaB (d:=71) a _ (by decide)).trans (g3 h)),hb2,q8,q10,q2,q3⟩
     ·simp [Region.binds] at hk2
      have h70:=g1 (by simp [hk2])
      have h71:=g2 (by simp [hk2])
      refine zaE rfl rfl (zeU 108 #[.agg cr.toArray,.int .i64 (s:Int)] (by simp [execOp,go_sem];exact⟨by simpa [Act.eval] using h70,by simpa [Act.eval] using h71⟩) ((HSD.out W).mono ?_))
      rintro e W2 ⟨rfl,hB⟩
      exact⟨_,rfl,b0,b1,b2,true,b4,b5,rfl,((zgO a (some 72) _).trans hsz),((zeJ a (some 72) _).trans hdf),((zaB (d:=72) a _ (by decide)).trans e10),((zaB (d:=72) a _ (by decide)).trans e8),((zaB (d:=72) a _ (by decide)).trans e7),((zaB (d:=72) a _ (by decide)).trans e4),((zaB (d:=72) a _ (by decide)).trans e5),fun h=>((zaB (d:=72) a _ (by decide)).trans (g0 h)),fun h=>((zaB (d:=72) a _ (by decide)).trans (g1 h)),fun h=>((zaB (d:=72) a _ (by decide)).trans (g2 h)),fun _=>zaR (d:=72) a _ (by rw[hsz];decide),hb2.trans (hB.mono hb2.size),Row.below q8 hB (Row.lt q8),Row.below q10 hB (Row.lt q10),Row.below q2 hB (Row.lt q2),Row.below q3 hB (Row.lt q3)⟩
     ·simp [Region.binds] at hk2
      obtain rfl:b4=false:=by simp [hk2]
      have h69:=g0 (by simp [hk2])
      rw[if_neg (by decide)] at q2
      have T:=q2.there 0 cq.toArray.size (by simp [lq,zaJ])
      have fin:=q2.over (vs:=cq) (by rw[lq];rfl)
      exact zaE rfl rfl (wp_store_mid 129 (.tmp 4) (.tmp 69) rfl (w.heap.size+1+1) 0 cq.toArray e4 h69 T iq' oq ⟨b0,b1,b2,b3,true,b5,rfl,hsz,hdf,e10,e8,e7,e4,e5,g0,g1,g2,g3,zaC hb2 (by omega) _,Row.setCells_other q8 _ _ _ (by omega),Row.setCells_other q10 _ _ _ (by omega),(by rw[if_pos rfl];exact fin),Row.setCells_other q3 _ _ _ (by omega)⟩)
     ·simp [Region.binds] at hk2
      obtain rfl:b5=false:=by simp [hk2]
      have h72:=g3 (by simp [hk2])
      rw[if_neg (by decide)] at q3
      have T:=q3.there 0 cs.toArray.size (by simp [ls,zaJ])
      have fin:=q3.over (vs:=cs) (by rw[ls];rfl)
      exact zaE rfl rfl (wp_store_mid 27 (.tmp 5) (.tmp 72) rfl (w.heap.size+1+1+1) 0 cs.toArray e5 h72 T is' os ⟨b0,b1,b2,b3,b4,true,rfl,hsz,hdf,e10,e8,e7,e4,e5,g0,g1,g2,g3,zaC hb2 (by omega) _,Row.setCells_other q8 _ _ _ (by omega),Row.setCells_other q10 _ _ _ (by omega),Row.setCells_other q2 _ _ _ (by omega),(by rw[if_pos rfl];exact fin)⟩)
    ·clear hb2 q2 q3 q8 q9 q10 hsz hdf e10 e8 e7 e4 e5
     intro listed a W hI hr
     obtain⟨b0,b1,b2,b3,b4,b5,rfl,hsz,hdf,e10,e8,e7,e4,e5,g0,g1,g2,g3,hb2,q8,q10,q2,q3⟩:=hI
     have hr2:=List.filter_eq_nil_iff.1 hr
     obtain rfl:b0=true:=by have:=hr2 0 (List.mem_range.2 (by decide));simpa [Region.binds] using this
     obtain rfl:b1=true:=by have:=hr2 1 (List.mem_range.2 (by decide));simpa [Region.binds] using this
     obtain rfl:b2=true:=by have:=hr2 2 (List.mem_range.2 (by decide));simpa [Region.binds] using this
     obtain rfl:b3=true:=by have:=hr2 3 (List.mem_range.2 (by decide));simpa [Region.binds] using this
     obtain rfl:b4=true:=by have:=hr2 4 (List.mem_range.2 (by decide));simpa [Region.binds] using this
     obtain rfl:b5=true:=by have:=hr2 5 (List.mem_range.2 (by decide));simpa [Region.binds] using this
     rw[if_pos rfl] at q2 q3
     clear hr hr2 g0 g1 g2 g3
     go_wp2
     rw[Exit.noGoto_ret]
     exact bodyPost_ret (zhB Tryz.results96 _ _ (w.heap.size+1+1) (w.heap.size+1+1+1) 129 27 cq cs (by simpa [Act.eval] using e4) (by simpa [Act.eval] using e5) q2 q3 Tryz.underlying129 zdI lq Tryz.underlying27 zaL ls) hdf ⟨by rw[HCQ.out,HCS.out],hb2⟩
   |succ g=>
    have hg8:g+n<=8:=by have:=hD.out.1;omega
    have ei:(((g+1:Nat):Int)-1)=(g:Int):=by omega
    rw[ei]
    have e1:(g:Int)+(n:Int)-1=(g:Int)+(i:Int):=by omega
    have hgi:g+i<9:=by have:=HN.out;omega
    have c1:=q8.cell (g+n) _ (zbW _ (g+n) (by rw[zaH];omega))
    have c2:=q8.cell (g+i) _ (zbW _ (g+i) (by rw[zaH];omega))
    have c3:=q9.cell i _ (zbW _ i (by rw[zaH];omega))
    rw[zbP _ _ _ (by omega)] at c1 c2 c3
    have hgg:=zyC R Y g n (by have:=HN.out;omega) s2 (by rw[show n-1=i by have:=HN.out;omega];omega) hD.out.2.lt
    rw[show g+n-1=g+i by have:=HN.out;omega,show n-1=i by have:=HN.out;omega] at hgg
    have HGE:Hid _:=hgg.2
    have HG:Hid (∀ w,_):=zsV (lim R (g+n)) (lim R (g+i)) (lim Y i) hgg.1 (zbQ _ _) (zbQ _ _)
    have HGL:Hid _:=gss_lt (lim R (g+n)) (lim R (g+i)) (lim Y i) hgg.1 (zbQ _ _)
    clear hgg ei
    generalize gss (lim R (g+n)) (lim R (g+i)) (lim Y i)=G at *
    have HS3:Hid (9223372036854775808<=lim Y i):=s3
    clear s3
    generalize lim R (g+n)=y1 at *
    generalize lim R (g+i)=y2 at *
    generalize lim Y i=y3 at *
    go_wp2
    go_quiet (first|(go_at_call 106;exact (HG.out (wr.drewN _)).mono (fun _ _ h=>⟨h.1,h.2.elim fun k hk=>⟨_,hk.trans (zsK _ _ _)⟩⟩)))
    go_wp2
    obtain⟨qd,hqd⟩:∃ qd,qd=R / (Y*18446744073709551616 ^ g):=⟨_,rfl⟩
    rw[<-hqd] at HGE
    have HQD:Hid (qd=R / (Y*18446744073709551616 ^ g)):=hqd
    clear hqd c1 c2 c3 HG
    replace hb2:=zbE hb2 nq
    replace q2:=Row.drewN q2 nq
    replace q3:=Row.drewN q3 nq
    replace q8:=Row.drewN q8 nq
    replace q9:=Row.drewN q9 nq
    replace q10:=Row.drewN q10 nq
    generalize World.drewN wr nq=V at *
    go_loopg [12] (G-qd) (fun h v Wx=>∃ (d:Nat),v=.int .u64 (d:Int)/\Below w.heap.size w Wx/\Row Wx (w.heap.size+1+1) (vQ (List.replicate 8 0)) 129/\Row Wx (w.heap.size+1+1+1) (vQ (List.replicate 4 0)) 27/\Row Wx N8 (vQ (dgs R 9)) 144/\Row Wx N9 (vQ (dgs Y 9)) 144/\Row Wx M (vQ (dgs Q 8)) 129/\Hid (d=qd+h/\d<18446744073709551616))
    case atStart=>exact⟨G,rfl,hb2,q2,q3,q8,q9,q10,by have:=HGE.out.1;omega,HGL.out⟩
    case round=>
     clear hb2 q2 q3 q8 q9 q10 HGL
     obtain⟨d,rfl,hb2,q2,q3,q8,q9,q10,hd⟩:=hrel
     have HT:Hid (∀ w,_):=zmA R Y d g n hg8 s2 hd.out.2 HGE.out.2
     obtain⟨cr,hcr⟩:∃ cr,cr=vQ (dgs R 9):=⟨_,rfl⟩
     obtain⟨cv,hcv⟩:∃ cv,cv=vQ (dgs Y 9):=⟨_,rfl⟩
     have HCR:Hid (cr=vQ (dgs R 9)):=hcr
     have HCV:Hid (cv=vQ (dgs Y 9)):=hcv
     have lr:cr.length=9:=by rw[hcr,zaJ,zaH]
     have lv:cv.length=9:=by rw[hcv,zaJ,zaH]
     have ir:(Tryz.prog.info? 144).map (·.size)=some cr.length:=by rw[zcR,lr]
     have iv:(Tryz.prog.info? 144).map (·.size)=some cv.length:=by rw[zcR,lv]
     rw[<-hcr] at q8
     rw[<-hcv] at q9
     rw[<-hcr,<-hcv] at HT
     have LR:Hid (cr.length=9):=lr
     clear hcr hcv lr lv
     by_cases he:d*Y*18446744073709551616 ^ g<=R
     ·have HT2:Hid (∀ w,Calls Tryz.prog 107 #[.agg cr.toArray,.agg cv.toArray,.int .i64 (n:Int),.int .u64 (d:Int),.int .i64 (g:Int)] w fun e w'=>e=.returned (.tuple #[.agg (vQ (dgs (R-d*Y*18446744073709551616 ^ g) 9)).toArray,.bool true])/\Below w.heap.size w w'):=fun w=>(HT.out w).mono (by
       rintro e w' ⟨l,he1,_,he3,he4⟩
       rw[he3 he,decide_eq_true he] at he1
       exact⟨he1,he4⟩)
      have HE:Hid (d*Y*18446744073709551616 ^ g<=R):=he
      clear he HT
      obtain⟨R2,hR2⟩:∃ R2,R2=R-d*Y*18446744073709551616 ^ g:=⟨_,rfl⟩
      rw[<-hR2] at HT2
      have HR2:Hid (R2=R-d*Y*18446744073709551616 ^ g):=hR2
      obtain⟨c2,hc2⟩:∃ c2,c2=vQ (dgs R2 9):=⟨_,rfl⟩
      have l2:c2.length=9:=by rw[hc2,zaJ,zaH]
      have i2:(Tryz.prog.info? 144).map (·.size)=some c2.length:=by rw[zcR,l2]
      have i2':(Tryz.prog.info? 144).map (·.size)=some c2.toArray.size:=by rw[zcR];simp [l2]
      have o2:=all_oneCell_toArray (show ∀ v ∈ c2,v.oneCell'=true by rw[hc2];exact zbR _)
      have HC2:Hid (c2=vQ (dgs R2 9)):=hc2
      have L2:Hid (c2.length=9):=l2
      rw[<-hc2] at HT2
      clear hR2 hc2 l2
      go_wp2_with (first
       |(refine wpList_load_mid rfl 144 (.tmp 8) rfl N8 0 rfl cr _ q8.all Tryz.underlying144 rfl ir ?_;simp only[Act.put,jA,jB,jC])
       |(refine wpList_load_mid rfl 144 (.tmp 9) rfl N9 0 rfl cv _ q9.all Tryz.underlying144 rfl iv ?_;simp only[Act.put,jA,jB,jC]))
      refine (HT2.out wr).mono ?_
      rintro e V1 ⟨rfl,hB⟩
      have hb3:=hb2.trans (hB.mono hb2.size)
      replace q2:=Row.below q2 hB (Row.lt q2)
      replace q3:=Row.below q3 hB (Row.lt q3)
      replace q8:=Row.below q8 hB (Row.lt q8)
      replace q9:=Row.below q9 hB (Row.lt q9)
      replace q10:=Row.below q10 hB (Row.lt q10)
      clear hB hb2
      have lM:=Row.lt q10
      have n13:Row (V1.alloc (Obj.cells #[.int .u64 0,.int .u64 0,.int .u64 0,.int .u64 0,.int .u64 0,.int .u64 0,.int .u64 0,.int .u64 0,.int .u64 0] 144)) V1.heap.size (vQ (List.replicate 9 0)) 144:=Row.new' rfl rfl
      have T13:=n13.there 0 c2.toArray.size (by simp [L2.out,zaJ])
      have r13:Row ((V1.alloc (Obj.cells #[.int .u64 0,.int .u64 0,.int .u64 0,.int .u64 0,.int .u64 0,.int .u64 0,.int .u64 0,.int .u64 0,.int .u64 0] 144)).setCells V1.heap.size 0 c2) V1.heap.size c2 144:=Row.over n13 (by rw[L2.out];rfl)
      have p8:Row ((V1.alloc (Obj.cells #[.int .u64 0,.int .u64 0,.int .u64 0,.int .u64 0,.int .u64 0,.int .u64 0,.int .u64 0,.int .u64 0,.int .u64 0] 144)).setCells V1.heap.size 0 c2) N8 cr 144:=Row.setCells_other (Row.alloc q8 _) _ _ _ (by omega)
      have T8:=p8.there 0 c2.toArray.size (by simp [L2.out,LR.out])
      have u8:Row (((V1.alloc (Obj.cells #[.int .u64 0,.int .u64 0,.int .u64 0,.int .u64 0,.int .u64 0,.int .u64 0,.int .u64 0,.int .u64 0,.int .u64 0] 144)).setCells V1.heap.size 0 c2).setCells N8 0 c2) N8 c2 144:=Row.over p8 (by rw[L2.out,LR.out])
      have u9:Row (((V1.alloc (Obj.cells #[.int .u64 0,.int .u64 0,.int .u64 0,.int .u64 0,.int .u64 0,.int .u64 0,.int .u64 0,.int .u64 0,.int .u64 0] 144)).setCells V1.heap.size 0 c2).setCells N8 0 c2) N9 cv 144:=Row.setCells_other (Row.setCells_other (Row.alloc q9 _) _ _ _ (by omega)) _ _ _ (Ne.symm hne)
      have u10:Row (((V1.alloc (Obj.cells #[.int .u64 0,.int .u64 0,.int .u64 0,.int .u64 0,.int .u64 0,.int .u64 0,.int .u64 0,.int .u64 0,.int .u64 0] 144)).setCells V1.heap.size 0 c2).setCells N8 0 c2) M (vQ (dgs Q 8)) 129:=Row.setCells_other (Row.setCells_other (Row.alloc q10 _) _ _ _ (by omega)) _ _ _ (by omega)
      have u2:Row (((V1.alloc (Obj.cells #[.int .u64 0,.int .u64 0,.int .u64 0,.int .u64 0,.int .u64 0,.int .u64 0,.int .u64 0,.int .u64 0,.int .u64 0] 144)).setCells V1.heap.size 0 c2).setCells N8 0 c2) (w.heap.size+1+1) (vQ (List.replicate 8 0)) 129:=Row.setCells_other (Row.setCells_other (Row.alloc q2 _) _ _ _ (by omega)) _ _ _ (by omega)
      have u3:Row (((V1.alloc (Obj.cells #[.int .u64 0,.int .u64 0,.int .u64 0,.int .u64 0,.int .u64 0,.int .u64 0,.int .u64 0,.int .u64 0,.int .u64 0] 144)).setCells V1.heap.size 0 c2).setCells N8 0 c2) (w.heap.size+1+1+1) (vQ (List.replicate 4 0)) 27:=Row.setCells_other (Row.setCells_other (Row.alloc q3 _) _ _ _ (by omega)) _ _ _ (by omega)
      have ub:Below w.heap.size w (((V1.alloc (Obj.cells #[.int .u64 0,.int .u64 0,.int .u64 0,.int .u64 0,.int .u64 0,.int .u64 0,.int .u64 0,.int .u64 0,.int .u64 0] 144)).setCells V1.heap.size 0 c2).setCells N8 0 c2):=zaC (zaC (hb3.alloc hb3.size _) hb3.size _) (by omega) _
      have cM:=u10.cell g _ (zbW _ g (by rw[zaH];omega))
      have cF:=u10.thaw g
      have hg9:g<8:=by have:=HN.out;omega
      clear n13 q2 q3 q8 q9 q10 hb3
      go_wp2_with (first
       |(refine wpList_store_mid rfl 144 (.tmp 13) (.tmp 62) rfl V1.heap.size 0 c2.toArray rfl rfl T13 i2' o2 ?_;simp only[Act.put])
       |(refine wpList_load_mid rfl 144 (.tmp 13) rfl V1.heap.size 0 rfl c2 _ r13.all Tryz.underlying144 rfl i2 ?_;simp only[Act.put,jA,jB,jC])
       |(refine wpList_store_mid rfl 144 (.tmp 8) (.tmp 66) rfl N8 0 c2.toArray rfl rfl T8 i2' o2 ?_;simp only[Act.put];clear T13 T8 r13 p8;(change wpList _ _ _ _ _ (((V1.alloc (Obj.cells #[.int .u64 0,.int .u64 0,.int .u64 0,.int .u64 0,.int .u64 0,.int .u64 0,.int .u64 0,.int .u64 0,.int .u64 0] 144)).setCells V1.heap.size 0 c2).setCells N8 0 c2));(generalize (((V1.alloc (Obj.cells #[.int .u64 0,.int .u64 0,.int .u64 0,.int .u64 0,.int .u64 0,.int .u64 0,.int .u64 0,.int .u64 0,.int .u64 0] 144)).setCells V1.heap.size 0 c2).setCells N8 0 c2)=V2 at *)))
      go_roundg g
      case measure=>omega
      case rel=>
       have hN:=hD.out.2.next (by omega) (Nat.pos_of_ne_zero (fun e=>by have:=hD.out.2.lt;rw[e,Nat.zero_mul] at this;omega)) (by rw[<-HQD.out,hd.out.1];omega) HE.out hd.out.2 HA8.out
       refine⟨R2,Q+d*18446744073709551616 ^ g,rfl,Below.setCell ub (by simp;omega) _,u2.set_other _ _ _ (by omega),u3.set_other _ _ _ (by omega),?_,?_,?_,by have:=hD.out.1;omega,?_⟩
       ·rw[<-HC2.out];exact u8.set_other _ _ _ (by omega)
       ·rw[<-HCV.out];exact u9.set_other _ _ _ (by omega)
       ·have:=u10.set g (.int .u64 (d:Int))
        rw[zeY,hN.2] at this
        exact this
       ·rw[HR2.out];exact hN.1
     ·have HT3:Hid (∀ w,Calls Tryz.prog 107 #[.agg cr.toArray,.agg cv.toArray,.int .i64 (n:Int),.int .u64 (d:Int),.int .i64 (g:Int)] w fun e w'=>∃ c2:List Value,e=.returned (.tuple #[.agg c2.toArray,.bool false])/\c2.length=9/\(∀ v ∈ c2,v.oneCell'=true)/\Below w.heap.size w w'):=fun w=>(HT.out w).mono (by
       rintro e w' ⟨l,he1,he2,_,he4⟩
       rw[decide_eq_false he] at he1
       exact⟨vQ l,he1,by rw[zaJ];exact he2,zbR _,he4⟩)
      have hgt:qd<d:=by
       rcases Nat.lt_or_ge qd d with h|h
       ·exact h
       ·exfalso
        apply he
        have:d=qd:=by have:=hd.out.1;omega
        rw[this,HQD.out,Nat.mul_assoc]
        exact Nat.div_mul_le_self _ _
      have hd1:(1:Int)<=(d:Int):=by omega
      have HGT:Hid (qd<d):=hgt
      clear he HT hgt
      go_wp2_with (first
       |(refine wpList_load_mid rfl 144 (.tmp 8) rfl N8 0 rfl cr _ q8.all Tryz.underlying144 rfl ir ?_;simp only[Act.put,jA,jB,jC])
       |(refine wpList_load_mid rfl 144 (.tmp 9) rfl N9 0 rfl cv _ q9.all Tryz.underlying144 rfl iv ?_;simp only[Act.put,jA,jB,jC]))
      refine (HT3.out wr).mono ?_
      rintro e V1 ⟨c2,rfl,l2,h2,hB⟩
      have hb3:=hb2.trans (hB.mono hb2.size)
      replace q2:=Row.below q2 hB (Row.lt q2)
      replace q3:=Row.below q3 hB (Row.lt q3)
      replace q8:=Row.below q8 hB (Row.lt q8)
      replace q9:=Row.below q9 hB (Row.lt q9)
      replace q10:=Row.below q10 hB (Row.lt q10)
      have lM:=Row.lt q10
      have n13:Row (V1.alloc (Obj.cells #[.int .u64 0,.int .u64 0,.int .u64 0,.int .u64 0,.int .u64 0,.int .u64 0,.int .u64 0,.int .u64 0,.int .u64 0] 144)) V1.heap.size (vQ (List.replicate 9 0)) 144:=Row.new' rfl rfl
      have i2':(Tryz.prog.info? 144).map (·.size)=some c2.toArray.size:=by rw[zcR];simp [l2]
      have o2:=all_oneCell_toArray h2
      have T13:=n13.there 0 c2.toArray.size (by simp [l2,zaJ])
      have u8:Row ((V1.alloc (Obj.cells #[.int .u64 0,.int .u64 0,.int .u64 0,.int .u64 0,.int .u64 0,.int .u64 0,.int .u64 0,.int .u64 0,.int .u64 0] 144)).setCells V1.heap.size 0 c2) N8 cr 144:=Row.setCells_other (Row.alloc q8 _) _ _ _ (by omega)
      have u9:Row ((V1.alloc (Obj.cells #[.int .u64 0,.int .u64 0,.int .u64 0,.int .u64 0,.int .u64 0,.int .u64 0,.int .u64 0,.int .u64 0,.int .u64 0] 144)).setCells V1.heap.size 0 c2) N9 cv 144:=Row.setCells_other (Row.alloc q9 _) _ _ _ (by omega)
      have u10:Row ((V1.alloc (Obj.cells #[.int .u64 0,.int .u64 0,.int .u64 0,.int .u64 0,.int .u64 0,.int .u64 0,.int .u64 0,.int .u64 0,.int .u64 0] 144)).setCells V1.heap.size 0 c2) M (vQ (dgs Q 8)) 129:=Row.setCells_other (Row.alloc q10 _) _ _ _ (by omega)
      have u2:Row ((V1.alloc (Obj.cells #[.int .u64 0,.int .u64 0,.int .u64 0,.int .u64 0,.int .u64 0,.int .u64 0,.int .u64 0,.int .u64 0,.int .u64 0] 144)).setCells V1.heap.size 0 c2) (w.heap.size+1+1) (vQ (List.replicate 8 0)) 129:=Row.setCells_other (Row.alloc q2 _) _ _ _ (by omega)
      have u3:Row ((V1.alloc (Obj.cells #[.int .u64 0,.int .u64 0,.int .u64 0,.int .u64 0,.int .u64 0,.int .u64 0,.int .u64 0,.int .u64 0,.int .u64 0] 144)).setCells V1.heap.size 0 c2) (w.heap.size+1+1+1) (vQ (List.replicate 4 0)) 27:=Row.setCells_other (Row.alloc q3 _) _ _ _ (by omega)
      have ub:Below w.heap.size w ((V1.alloc (Obj.cells #[.int .u64 0,.int .u64 0,.int .u64 0,.int .u64 0,.int .u64 0,.int .u64 0,.int .u64 0,.int .u64 0,.int .u64 0] 144)).setCells V1.heap.size 0 c2):=zaC (hb3.alloc hb3.size _) hb3.size _
      clear n13 q2 q3 q8 q9 q10 hb3 hB hb2 l2 h2
      go_wp2_with (first
       |(refine wpList_store_mid rfl 144 (.tmp 13) (.tmp 62) rfl V1.heap.size 0 c2.toArray rfl rfl T13 i2' o2 ?_;simp only[Act.put];clear T13;(change wpList _ _ _ _ _ ((V1.alloc (Obj.cells #[.int .u64 0,.int .u64 0,.int .u64 0,.int .u64 0,.int .u64 0,.int .u64 0,.int .u64 0,.int .u64 0,.int .u64 0] 144)).setCells V1.heap.size 0 c2));(generalize ((V1.alloc (Obj.cells #[.int .u64 0,.int .u64 0,.int .u64 0,.int .u64 0,.int .u64 0,.int .u64 0,.int .u64 0,.int .u64 0,.int .u64 0] 144)).setCells V1.heap.size 0 c2)=V2 at *)))
      go_roundg (gk-1)
      case measure=>have:=hd.out.1;have:=HGT.out;omega
      case rel=>
       refine⟨d-1,?_,ub,u2,u3,?_,?_,u10,?_,?_⟩
       ·have h1:=HGT.out
        have h2:=hd.out.2
        rw[IntKind.wrap_u64]
        exact congrArg (Value.int IntKind.u64) (by omega)
       ·rw[<-HCR.out];exact u8
       ·rw[<-HCV.out];exact u9
       ·have:=hd.out.1;have:=HGT.out;omega
       ·have:=hd.out.2;omega
namespace Wd
def zsD (a b:Nat):Nat:=if b=0 then 0 else a / b
def zsE (a b:Nat):Nat:=if b=0 then 0 else a % b
def zmP (b:Nat):Int:=if b=0 then 24 else 0
def mdR (a b c:Nat):Nat:=if c=0 then 0 else if a*b / c<2 ^ 256 then a*b / c else 0
def mdE (a b c:Nat):Int:=if c=0 then 24 else if a*b / c<2 ^ 256 then 0 else 22
end Wd
theorem zvM {o:Oper} {a:Act} {w:World} {K:Act->World->Prop} {Q:Exit->Act->World->Prop} (ho:o.op=.alloc 129) (h:K (a.put o.dst (.pointer (some ⟨w.heap.size,0,none⟩))) (w.alloc (.cells (vQ (List.replicate 8 0)).toArray 129))):Oper.wp Tryz.prog o a w K Q:=by
 obtain⟨dst,op,ty,pos,after,guard⟩:=o
 simp only at ho
 subst ho
 unfold Oper.wp
 go_simp
 exact h
theorem zvL {o:Oper} {a:Act} {w:World} {K:Act->World->Prop} {Q:Exit->Act->World->Prop} (ho:o.op=.alloc 27) (h:K (a.put o.dst (.pointer (some ⟨w.heap.size,0,none⟩))) (w.alloc (.cells (vQ (List.replicate 4 0)).toArray 27))):Oper.wp Tryz.prog o a w K Q:=by
 obtain⟨dst,op,ty,pos,after,guard⟩:=o
 simp only at ho
 subst ho
 unfold Oper.wp
 go_simp
 exact h
theorem zeX {P:Program} {fn:Func} {p q r:Tmp} {ty tz:TypeId} {n m:Nat} {e e':TypeId} (h:fn.results=#[.cell p ty,.cell q tz,.tmp r]) (tmps:Array Value) (w:World) (g g':Nat) (t t':TypeId) (cs ds:List Value) (v:Value)
 (hp:tmps.getD p undef=.pointer (some ⟨g,0,none⟩)) (hq:tmps.getD q undef=.pointer (some ⟨g',0,none⟩)) (hv:tmps.getD r undef=v) (hg:Row w g cs t) (hg':Row w g' ds t') (hu:P.underlying ty=some (.array n e)) (hi:(P.info? ty).map (·.size)=some n) (hl:cs.length=n) (hu':P.underlying tz=some (.array m e')) (hi':(P.info? tz).map (·.size)=some m) (hl':ds.length=m) :
 (results fn tmps).run P w=.ok (.tuple #[.agg cs.toArray,.agg ds.toArray,v]) w:=by
 have hp':tmps[p]?.getD undef=.pointer (some ⟨g,0,none⟩):=by simpa using hp
 have hq':tmps[q]?.getD undef=.pointer (some ⟨g',0,none⟩):=by simpa using hq
 have hv':tmps[r]?.getD undef=v:=by simpa using hv
 have hr:=run_loadVar_row (P:=P) w g t ty cs.toArray (0,0) (.array n e) hg hu rfl (by simp [hi,hl])
 have hr':=run_loadVar_row (P:=P) w g' t' tz ds.toArray (0,0) (.array m e') hg' hu' rfl (by simp [hi',hl'])
 simp [results,h,hp',hq',hv',asAddr,hr,hr']
theorem zsF (a b:Nat) (ha:a<2 ^ 256) (hb:b<2 ^ 256) (w:World) :
 Calls Tryz.prog 78 #[.agg (vQ (dgs a 4)).toArray,.agg (vQ (dgs b 4)).toArray] w fun e w'=>e=.returned (.tuple #[.agg (vQ (dgs (zsD a b) 4)).toArray,.agg (vQ (dgs (zsE a b) 4)).toArray,.int .i64 (zmP b)])/\Below w.heap.size w w':=by
 have HZ:Hid (∀ w,_):=zeK b hb
 have HDB:Hid (∀ w,_):=zhW a ha
 have HDV:Hid (0<b->∀ w,Calls Tryz.prog 96 #[.agg (vQ (dgs a 8)).toArray,.agg (vQ (dgs b 4)).toArray] w fun e w'=>e=.returned (.tuple #[.agg (vQ (dgs (a / b) 8)).toArray,.agg (vQ (dgs (a % b) 4)).toArray])/\Below w.heap.size w w'):=fun h0 w=>zqH a b (Nat.lt_of_lt_of_le ha (by decide)) hb h0 w
 have HHV:Hid (∀ w,_):=zjH (a / b)
 obtain⟨ca,hca⟩:∃ ca,ca=vQ (dgs a 4):=⟨_,rfl⟩
 obtain⟨cb,hcb⟩:∃ cb,cb=vQ (dgs b 4):=⟨_,rfl⟩
 obtain⟨cd,hcd⟩:∃ cd,cd=vQ (dgs a 8):=⟨_,rfl⟩
 obtain⟨cq,hcq⟩:∃ cq,cq=vQ (dgs (a / b) 8):=⟨_,rfl⟩
 obtain⟨cr,hcr⟩:∃ cr,cr=vQ (dgs (a % b) 4):=⟨_,rfl⟩
 obtain⟨cl,hcl⟩:∃ cl,cl=vQ (dgs (a / b) 4):=⟨_,rfl⟩
 obtain⟨ch,hch⟩:∃ ch,ch=vQ (dgs (a / b / 2 ^ 256) 4):=⟨_,rfl⟩
 rw[<-hcb] at HZ
 rw[<-hca,<-hcd] at HDB
 rw[<-hcd,<-hcb,<-hcq,<-hcr] at HDV
 rw[<-hcq,<-hcl,<-hch] at HHV
 rw[<-hca,<-hcb]
 have la:ca.length=4:=by rw[hca,zaJ,zaH]
 have lb:cb.length=4:=by rw[hcb,zaJ,zaH]
 have lq:cq.length=8:=by rw[hcq,zaJ,zaH]
 have lr:cr.length=4:=by rw[hcr,zaJ,zaH]
 have ll:cl.length=4:=by rw[hcl,zaJ,zaH]
 have lh:ch.length=4:=by rw[hch,zaJ,zaH]
 have ia:(Tryz.prog.info? 27).map (·.size)=some ca.length:=by rw[zaL,la]
 have ib:(Tryz.prog.info? 27).map (·.size)=some cb.length:=by rw[zaL,lb]
 have iq:(Tryz.prog.info? 129).map (·.size)=some cq.length:=by rw[zdI,lq]
 have iq':(Tryz.prog.info? 129).map (·.size)=some cq.toArray.size:=by rw[zdI];simp [lq]
 have ir:(Tryz.prog.info? 27).map (·.size)=some cr.length:=by rw[zaL,lr]
 have ir':(Tryz.prog.info? 27).map (·.size)=some cr.toArray.size:=by rw[zaL];simp [lr]
 have il:(Tryz.prog.info? 27).map (·.size)=some cl.length:=by rw[zaL,ll]
 have il':(Tryz.prog.info? 27).map (·.size)=some cl.toArray.size:=by rw[zaL];simp [ll]
 have ih':(Tryz.prog.info? 27).map (·.size)=some ch.toArray.size:=by rw[zaL];simp [lh]
 have oq:=all_oneCell_toArray (show ∀ v ∈ cq,v.oneCell'=true by rw[hcq];exact zbR _)
 have or:=all_oneCell_toArray (show ∀ v ∈ cr,v.oneCell'=true by rw[hcr];exact zbR _)
 have ol:=all_oneCell_toArray (show ∀ v ∈ cl,v.oneCell'=true by rw[hcl];exact zbR _)
 have oh:=all_oneCell_toArray (show ∀ v ∈ ch,v.oneCell'=true by rw[hch];exact zbR _)
 have HCR:Hid (vQ (dgs (a % b) 4)=cr):=hcr.symm
 have HCL:Hid (vQ (dgs (a / b) 4)=cl):=hcl.symm
 have HLQ:Hid (cq.length=8):=lq
 have HLR:Hid (cr.length=4):=lr
 have HLL:Hid (cl.length=4):=ll
 have HLH:Hid (ch.length=4):=lh
 clear hca hcb hcd hcq hcr hcl hch la lb ha hb lq lr ll lh
 have hb0:Below w.heap.size w ((((w.alloc (Obj.cells ca.toArray 27)).alloc (Obj.cells cb.toArray 27)).alloc (Obj.cells (vQ (List.replicate 4 0)).toArray 27)).alloc (Obj.cells (vQ (List.replicate 4 0)).toArray 27)):=((((Below.refl _ _).alloc (Nat.le_refl _) _).alloc (by simp) _).alloc (by simp;omega) _).alloc (by simp;omega) _
 have r0:Row ((((w.alloc (Obj.cells ca.toArray 27)).alloc (Obj.cells cb.toArray 27)).alloc (Obj.cells (vQ (List.replicate 4 0)).toArray 27)).alloc (Obj.cells (vQ (List.replicate 4 0)).toArray 27)) w.heap.size ca 27:=(((Row.new w ca _).alloc _).alloc _).alloc _
 have r1:Row ((((w.alloc (Obj.cells ca.toArray 27)).alloc (Obj.cells cb.toArray 27)).alloc (Obj.cells (vQ (List.replicate 4 0)).toArray 27)).alloc (Obj.cells (vQ (List.replicate 4 0)).toArray 27)) (w.heap.size+1) cb 27:=((Row.new' (by simp) rfl).alloc _).alloc _
 have r2:Row ((((w.alloc (Obj.cells ca.toArray 27)).alloc (Obj.cells cb.toArray 27)).alloc (Obj.cells (vQ (List.replicate 4 0)).toArray 27)).alloc (Obj.cells (vQ (List.replicate 4 0)).toArray 27)) (w.heap.size+1+1) (vQ (List.replicate 4 0)) 27:=(Row.new' (by simp) rfl).alloc _
 have r3:Row ((((w.alloc (Obj.cells ca.toArray 27)).alloc (Obj.cells cb.toArray 27)).alloc (Obj.cells (vQ (List.replicate 4 0)).toArray 27)).alloc (Obj.cells (vQ (List.replicate 4 0)).toArray 27)) (w.heap.size+1+1+1) (vQ (List.replicate 4 0)) 27:=Row.new' (by simp) rfl
 have Z4:(vQ (List.replicate 4 0)).toArray=#[Value.int IntKind.u64 0,Value.int IntKind.u64 0,Value.int IntKind.u64 0,Value.int IntKind.u64 0]:=rfl
 rw[Z4] at hb0 r0 r1 r2 r3
 clear Z4
 go_enter Tryz.func78,Tryz.ntmps78
 go_wp2_with (refine wpList_load_mid rfl 27 (.tmp 3) rfl (w.heap.size+1) 0 rfl cb _ r1.all Tryz.underlying27 rfl ib ?_;simp only[Act.put,jA,jB,jC])
 generalize ((((w.alloc (Obj.cells ca.toArray 27)).alloc (Obj.cells cb.toArray 27)).alloc (Obj.cells #[.int .u64 0,.int .u64 0,.int .u64 0,.int .u64 0] 27)).alloc (Obj.cells #[.int .u64 0,.int .u64 0,.int .u64 0,.int .u64 0] 27))=W0 at *
 refine (HZ.out W0).mono ?_
 rintro e W1 ⟨rfl,hB⟩
 have hb1:=hb0.trans (hB.mono hb0.size)
 replace r0:=Row.below r0 hB (Row.lt r0)
 replace r1:=Row.below r1 hB (Row.lt r1)
 replace r2:=Row.below r2 hB (Row.lt r2)
 replace r3:=Row.below r3 hB (Row.lt r3)
 clear hB hb0 HZ
 by_cases hz:b=0
 ·have hd:decide (b=0)=true:=decide_eq_true hz
  rw[hd]
  have HR:Hid (zsD a b=0/\zsE a b=0/\zmP b=24):=⟨if_pos hz,if_pos hz,if_pos hz⟩
  clear hd hz
  have T2:=r2.there 0 (vQ (List.replicate 4 0)).toArray.size (Nat.le_refl 4)
  have f2:=r2.over (vs:=vQ (List.replicate 4 0)) rfl
  have r3':=Row.setCells_other r3 (w.heap.size+1+1) 0 (vQ (List.replicate 4 0)) (by omega)
  have T3:=r3'.there 0 (vQ (List.replicate 4 0)).toArray.size (Nat.le_refl 4)
  have f3:=r3'.over (vs:=vQ (List.replicate 4 0)) rfl
  have f2':=Row.setCells_other f2 (w.heap.size+1+1+1) 0 (vQ (List.replicate 4 0)) (by omega)
  have hbf:=zaC (zaC hb1 (b:=w.heap.size+1+1) (o:=0) (by omega) (vQ (List.replicate 4 0))) (b:=w.heap.size+1+1+1) (o:=0) (by omega) (vQ (List.replicate 4 0))
  go_wp2_with (first
   |(refine wpList_store_mid rfl 27 (.tmp 4) (.tmp 13) rfl (w.heap.size+1+1) 0 (vQ (List.replicate 4 0)).toArray rfl rfl T2 zaL (all_oneCell_toArray (zbR _)) ?_;simp only[Act.put])
   |(refine wpList_store_mid rfl 27 (.tmp 5) (.tmp 14) rfl (w.heap.size+1+1+1) 0 (vQ (List.replicate 4 0)).toArray rfl rfl T3 zaL (all_oneCell_toArray (zbR _)) ?_;simp only[Act.put]))
  exact bodyPost_ret (zeX Tryz.results78 _ _ (w.heap.size+1+1) (w.heap.size+1+1+1) 27 27 (vQ (List.replicate 4 0)) (vQ (List.replicate 4 0)) (.int .i64 24) rfl rfl rfl f2' f3 Tryz.underlying27 zaL rfl Tryz.underlying27 zaL rfl) rfl ⟨by rw[HR.out.1,HR.out.2.1,HR.out.2.2,zcP],hbf⟩
 ·have hd:decide (b=0)=false:=decide_eq_false hz
  rw[hd]
  have HR:Hid (zsD a b=a / b/\zsE a b=a % b/\zmP b=0):=⟨if_neg hz,if_neg hz,if_neg hz⟩
  have HD2:=HDV.out (by omega)
  have HDV2:Hid _:=HD2
  clear hd hz HDV HD2
  go_wp2
  refine zcU (by kernel_rfl) (fun listed a W=>∃ (b0 b1 b2 b3 b4 b5 b6 b7 b8 b9 b10:Bool) (N7 N8:Nat) (x7 x8 x15 x16 x17 x18 x19 x20 x21:Value),listed=#[b0,b1,b2,b3,b4,b5,b6,b7,b8,b9,b10]/\a={ tmps:=#[.agg ca.toArray,.agg cb.toArray,.pointer (some ⟨w.heap.size,0,none⟩),.pointer (some ⟨w.heap.size+1,0,none⟩),.pointer (some ⟨w.heap.size+1+1,0,none⟩),.pointer (some ⟨w.heap.size+1+1+1,0,none⟩),.int .i64 0,x7,x8,undef,undef,.agg cb.toArray,.bool false,undef,undef,x15,x16,x17,x18,x19,x20,x21,undef,undef,undef,undef,undef,undef,undef],defers:=[] }/\Below w.heap.size w W/\Row W w.heap.size ca 27/\Row W (w.heap.size+1) cb 27/\Row W (w.heap.size+1+1) (vQ (List.replicate 4 0)) 27/\Row W (w.heap.size+1+1+1) (vQ (List.replicate 4 0)) 27/\(b0=true->x16=.agg ca.toArray)/\(b1=true->x17=.agg cd.toArray)/\(b2=true->x18=.agg cb.toArray)/\(b3=true->x19=.tuple #[.agg cq.toArray,.agg cr.toArray])/\(b4=true->x15=.tuple #[.agg cq.toArray,.agg cr.toArray])/\(b5=true->x20=.agg cq.toArray)/\(b6=true->x21=.agg cr.toArray)/\(b7=true->x7=.pointer (some ⟨N7,0,none⟩)/\w.heap.size+1+1+1<N7/\Row W N7 (if b9=true then cq else vQ (List.replicate 8 0)) 129)/\(b8=true->x8=.pointer (some ⟨N8,0,none⟩)/\w.heap.size+1+1+1<N8/\Row W N8 (if b10=true then cr else vQ (List.replicate 4 0)) 27)/\(b7=true->b8=true->N7≠N8)/\(b9=true->b7=true)/\(b10=true->b8=true)) ?_ ?_ ?_
  ·exact⟨false,false,false,false,false,false,false,false,false,false,false,0,0,undef,undef,undef,undef,undef,undef,undef,undef,undef,rfl,rfl,Below.drew hb1,Row.drew r0,Row.drew r1,Row.drew r2,Row.drew r3,(fun h=>by cases h),(fun h=>by cases h),(fun h=>by cases h),(fun h=>by cases h),(fun h=>by cases h),(fun h=>by cases h),(fun h=>by cases h),(fun h=>by cases h),(fun h=>by cases h),(fun h=>by cases h),(fun h=>by cases h),(fun h=>by cases h)⟩
  ·clear hb1 r0 r1 r2 r3
   intro listed a W k hI hk
   obtain⟨b0,b1,b2,b3,b4,b5,b6,b7,b8,b9,b10,N7,N8,x7,x8,x15,x16,x17,x18,x19,x20,x21,rfl,rfl,hb1,r0,r1,r2,r3,f0,f1,f2,f3,f4,f5,f6,f7,f8,f9,f10,f11⟩:=hI
   have hk2:=(List.mem_filter.1 hk).2
   have hk1:k<11:=List.mem_range.1 (List.mem_filter.1 hk).1
   clear hk
   rcases (show k=0\/k=1\/k=2\/k=3\/k=4\/k=5\/k=6\/k=7\/k=8\/k=9\/k=10 by omega) with rfl|rfl|rfl|rfl|rfl|rfl|rfl|rfl|rfl|rfl|rfl
   ·exact zaE rfl rfl (wp_load_mid 27 (.tmp 2) rfl w.heap.size 0 rfl ca _ r0.all Tryz.underlying27 rfl ia ⟨true,b1,b2,b3,b4,b5,b6,b7,b8,b9,b10,N7,N8,x7,x8,x15,.agg ca.toArray,x17,x18,x19,x20,x21,rfl,rfl,hb1,r0,r1,r2,r3,fun _=>rfl,f1,f2,f3,f4,f5,f6,f7,f8,f9,f10,f11⟩)
   ·simp [Region.binds] at hk2
    obtain rfl:=f0 (by simp [hk2])
    refine zaE rfl rfl (zeU 97 #[.agg ca.toArray] (by go_simp) ((HDB.out W).mono ?_))
    rintro e W2 ⟨rfl,hB2⟩
    exact⟨_,rfl,b0,true,b2,b3,b4,b5,b6,b7,b8,b9,b10,N7,N8,x7,x8,x15,.agg ca.toArray,.agg cd.toArray,x18,x19,x20,x21,rfl,rfl,hb1.trans (hB2.mono hb1.size),Row.below r0 hB2 (Row.lt r0),Row.below r1 hB2 (Row.lt r1),Row.below r2 hB2 (Row.lt r2),Row.below r3 hB2 (Row.lt r3),fun _=>rfl,fun _=>rfl,f2,f3,f4,f5,f6,fun h=>⟨(f7 h).1,(f7 h).2.1,Row.below (f7 h).2.2 hB2 (Row.lt (f7 h).2.2)⟩,fun h=>⟨(f8 h).1,(f8 h).2.1,Row.below (f8 h).2.2 hB2 (Row.lt (f8 h).2.2)⟩,f9,f10,f11⟩
   ·exact zaE rfl rfl (wp_load_mid 27 (.tmp 3) rfl (w.heap.size+1) 0 rfl cb _ r1.all Tryz.underlying27 rfl ib ⟨b0,b1,true,b3,b4,b5,b6,b7,b8,b9,b10,N7,N8,x7,x8,x15,x16,x17,.agg cb.toArray,x19,x20,x21,rfl,rfl,hb1,r0,r1,r2,r3,f0,f1,fun _=>rfl,f3,f4,f5,f6,f7,f8,f9,f10,f11⟩)
   ·simp [Region.binds] at hk2
    obtain rfl:=f1 (by simp [hk2])
    obtain rfl:=f2 (by simp [hk2])
    refine zaE rfl rfl (zeU 96 #[.agg cd.toArray,.agg cb.toArray] (by go_simp) ((HDV2.out W).mono ?_))
    rintro e W2 ⟨rfl,hB2⟩
    exact⟨_,rfl,b0,b1,b2,true,b4,b5,b6,b7,b8,b9,b10,N7,N8,x7,x8,x15,x16,.agg cd.toArray,.agg cb.toArray,.tuple #[.agg cq.toArray,.agg cr.toArray],x20,x21,rfl,rfl,hb1.trans (hB2.mono hb1.size),Row.below r0 hB2 (Row.lt r0),Row.below r1 hB2 (Row.lt r1),Row.below r2 hB2 (Row.lt r2),Row.below r3 hB2 (Row.lt r3),f0,fun _=>rfl,fun _=>rfl,fun _=>rfl,f4,f5,f6,fun h=>⟨(f7 h).1,(f7 h).2.1,Row.below (f7 h).2.2 hB2 (Row.lt (f7 h).2.2)⟩,fun h=>⟨(f8 h).1,(f8 h).2.1,Row.below (f8 h).2.2 hB2 (Row.lt (f8 h).2.2)⟩,f9,f10,f11⟩
   ·simp [Region.binds] at hk2
    obtain rfl:=f3 (by simp [hk2])
    exact zaE rfl rfl (ziV (.tmp 19) rfl ⟨b0,b1,b2,b3,true,b5,b6,b7,b8,b9,b10,N7,N8,x7,x8,.tuple #[.agg cq.toArray,.agg cr.toArray],x16,x17,x18,.tuple #[.agg cq.toArray,.agg cr.toArray],x20,x21,rfl,rfl,hb1,r0,r1,r2,r3,f0,f1,f2,fun _=>rfl,fun _=>rfl,f5,f6,f7,f8,f9,f10,f11⟩)
   ·simp [Region.binds] at hk2
    obtain rfl:=f4 (by simp [hk2])
    exact zaE rfl rfl (zbZ (.tmp 15) 0 rfl _ rfl _ rfl ⟨b0,b1,b2,b3,b4,true,b6,b7,b8,b9,b10,N7,N8,x7,x8,.tuple #[.agg cq.toArray,.agg cr.toArray],x16,x17,x18,x19,.agg cq.toArray,x21,rfl,rfl,hb1,r0,r1,r2,r3,f0,f1,f2,f3,fun _=>rfl,fun _=>rfl,f6,f7,f8,f9,f10,f11⟩)
   ·simp [Region.binds] at hk2
    obtain rfl:=f4 (by simp [hk2])
    exact zaE rfl rfl (zbZ (.tmp 15) 1 rfl _ rfl _ rfl ⟨b0,b1,b2,b3,b4,b5,true,b7,b8,b9,b10,N7,N8,x7,x8,.tuple #[.agg cq.toArray,.agg cr.toArray],x16,x17,x18,x19,x20,.agg cr.toArray,rfl,rfl,hb1,r0,r1,r2,r3,f0,f1,f2,f3,fun _=>rfl,f5,fun _=>rfl,f7,f8,f9,f10,f11⟩)
   ·simp [Region.binds] at hk2
    have hsz:w.heap.size+1+1+1<W.heap.size:=Row.lt r3
    have hbz:¬ b9=true:=fun h=>by have:=f10 h;rw[hk2] at this;cases this
    exact zaE rfl rfl (zvM rfl ⟨b0,b1,b2,b3,b4,b5,b6,true,b8,b9,b10,W.heap.size,N8,.pointer (some ⟨W.heap.size,0,none⟩),x8,x15,x16,x17,x18,x19,x20,x21,rfl,rfl,hb1.alloc hb1.size _,Row.alloc r0 _,Row.alloc r1 _,Row.alloc r2 _,Row.alloc r3 _,f0,f1,f2,f3,f4,f5,f6,fun _=>⟨rfl,hsz,by rw[if_neg hbz];exact Row.new' rfl rfl⟩,fun h=>⟨(f8 h).1,(f8 h).2.1,Row.alloc (f8 h).2.2 _⟩,fun _ h=>Nat.ne_of_gt (Row.lt (f8 h).2.2),fun _=>rfl,f11⟩)
   ·simp [Region.binds] at hk2
    have hsz:w.heap.size+1+1+1<W.heap.size:=Row.lt r3
    have hbz:¬ b10=true:=fun h=>by have:=f11 h;rw[hk2] at this;cases this
    exact zaE rfl rfl (zvL rfl ⟨b0,b1,b2,b3,b4,b5,b6,b7,true,b9,b10,N7,W.heap.size,x7,.pointer (some ⟨W.heap.size,0,none⟩),x15,x16,x17,x18,x19,x20,x21,rfl,rfl,hb1.alloc hb1.size _,Row.alloc r0 _,Row.alloc r1 _,Row.alloc r2 _,Row.alloc r3 _,f0,f1,f2,f3,f4,f5,f6,fun h=>⟨(f7 h).1,(f7 h).2.1,Row.alloc (f7 h).2.2 _⟩,fun _=>⟨rfl,hsz,by rw[if_neg hbz];exact Row.new' rfl rfl⟩,fun h _=>Nat.ne_of_lt (Row.lt (f7 h).2.2),f10,fun _=>rfl⟩)
   ·simp [Region.binds] at hk2
    obtain rfl:b7=true:=by simp [hk2]
    obtain rfl:b5=true:=by simp [hk2]
    obtain rfl:b9=false:=by simp [hk2]
    obtain⟨rfl,y1,y2⟩:=f7 rfl
    obtain rfl:=f5 rfl
    rw[if_neg (by decide)] at y2
    have T:=y2.there 0 cq.toArray.size (by simp [HLQ.out,zaJ])
    have fin:=y2.over (vs:=cq) (by rw[HLQ.out];rfl)
    exact zaE rfl rfl (wp_store_mid 129 (.tmp 7) (.tmp 20) rfl N7 0 cq.toArray rfl rfl T iq' oq ⟨b0,b1,b2,b3,b4,true,b6,true,b8,true,b10,N7,N8,.pointer (some ⟨N7,0,none⟩),x8,x15,x16,x17,x18,x19,.agg cq.toArray,x21,rfl,rfl,zaC hb1 (by omega) _,Row.setCells_other r0 _ _ _ (by omega),Row.setCells_other r1 _ _ _ (by omega),Row.setCells_other r2 _ _ _ (by omega),Row.setCells_other r3 _ _ _ (by omega),f0,f1,f2,f3,f4,fun _=>rfl,f6,fun _=>⟨rfl,y1,by rw[if_pos rfl];exact fin⟩,fun h=>⟨(f8 h).1,(f8 h).2.1,Row.setCells_other (f8 h).2.2 _ _ _ (Ne.symm (f9 rfl h))⟩,f9,fun _=>rfl,f11⟩)
   ·simp [Region.binds] at hk2
    obtain rfl:b8=true:=by simp [hk2]
    obtain rfl:b6=true:=by simp [hk2]
    obtain rfl:b10=false:=by simp [hk2]
    obtain⟨rfl,y1,y2⟩:=f8 rfl
    obtain rfl:=f6 rfl
    rw[if_neg (by decide)] at y2
    have T:=y2.there 0 cr.toArray.size (by simp [HLR.out,zaJ])
    have fin:=y2.over (vs:=cr) (by rw[HLR.out];rfl)
    exact zaE rfl rfl (wp_store_mid 27 (.tmp 8) (.tmp 21) rfl N8 0 cr.toArray rfl rfl T ir' or ⟨b0,b1,b2,b3,b4,b5,true,b7,true,b9,true,N7,N8,x7,.pointer (some ⟨N8,0,none⟩),x15,x16,x17,x18,x19,x20,.agg cr.toArray,rfl,rfl,zaC hb1 (by omega) _,Row.setCells_other r0 _ _ _ (by omega),Row.setCells_other r1 _ _ _ (by omega),Row.setCells_other r2 _ _ _ (by omega),Row.setCells_other r3 _ _ _ (by omega),f0,f1,f2,f3,f4,f5,fun _=>rfl,fun h=>⟨(f7 h).1,(f7 h).2.1,Row.setCells_other (f7 h).2.2 _ _ _ (f9 h rfl)⟩,fun _=>⟨rfl,y1,by rw[if_pos rfl];exact fin⟩,f9,f10,fun _=>rfl⟩)
  ·clear hb1 r0 r1 r2 r3
   intro listed a W hI hr
   obtain⟨b0,b1,b2,b3,b4,b5,b6,b7,b8,b9,b10,N7,N8,x7,x8,x15,x16,x17,x18,x19,x20,x21,rfl,rfl,hb1,r0,r1,r2,r3,f0,f1,f2,f3,f4,f5,f6,f7,f8,f9,f10,f11⟩:=hI
   have hr2:=List.filter_eq_nil_iff.1 hr
   obtain rfl:b0=true:=by have:=hr2 0 (List.mem_range.2 (by decide));simpa [Region.binds] using this
   obtain rfl:b1=true:=by have:=hr2 1 (List.mem_range.2 (by decide));simpa [Region.binds] using this
   obtain rfl:b2=true:=by have:=hr2 2 (List.mem_range.2 (by decide));simpa [Region.binds] using this
   obtain rfl:b3=true:=by have:=hr2 3 (List.mem_range.2 (by decide));simpa [Region.binds] using this
   obtain rfl:b4=true:=by have:=hr2 4 (List.mem_range.2 (by decide));simpa [Region.binds] using this
   obtain rfl:b5=true:=by have:=hr2 5 (List.mem_range.2 (by decide));simpa [Region.binds] using this
   obtain rfl:b6=true:=by have:=hr2 6 (List.mem_range.2 (by decide));simpa [Region.binds] using this
   obtain rfl:b7=true:=by have:=hr2 7 (List.mem_range.2 (by decide));simpa [Region.binds] using this
   obtain rfl:b8=true:=by have:=hr2 8 (List.mem_range.2 (by decide));simpa [Region.binds] using this
   obtain rfl:b9=true:=by have:=hr2 9 (List.mem_range.2 (by decide));simpa [Region.binds] using this
   obtain rfl:b10=true:=by have:=hr2 10 (List.mem_range.2 (by decide));simpa [Region.binds] using this
   obtain⟨rfl,m7,p7⟩:=f7 rfl
   rw[if_pos rfl] at p7
   obtain⟨rfl,m8,p8⟩:=f8 rfl
   rw[if_pos rfl] at p8
   have ne78:=f9 rfl rfl
   clear hr hr2 f0 f1 f2 f3 f4 f5 f6 f7 f8 f9 f10 f11
   have q7:=Row.lt p7
   have q8:=Row.lt p8
   go_wp2_with (refine wpList_load_mid rfl 129 (.tmp 7) rfl N7 0 rfl cq _ p7.all Tryz.underlying129 rfl iq ?_;simp only[Act.put,jA,jB,jC])
   refine (HHV.out W).mono ?_
   rintro e W2 ⟨rfl,hB⟩
   have hb2:=hb1.trans (hB.mono hb1.size)
   replace r2:=Row.below r2 hB (Row.lt r2)
   replace r3:=Row.below r3 hB (Row.lt r3)
   replace p8:=Row.below p8 hB (Row.lt p8)
   have hsz:=hB.size
   clear hB hb1 r0 r1 p7 HHV HDB HDV2 ia ib iq iq' oq
   have n9:Row ((W2.alloc (Obj.cells #[.int .u64 0,.int .u64 0,.int .u64 0,.int .u64 0] 27)).alloc (Obj.cells #[.int .u64 0,.int .u64 0,.int .u64 0,.int .u64 0] 27)) W2.heap.size (vQ (List.replicate 4 0)) 27:=(Row.new' rfl rfl).alloc _
   have n10:Row ((W2.alloc (Obj.cells #[.int .u64 0,.int .u64 0,.int .u64 0,.int .u64 0] 27)).alloc (Obj.cells #[.int .u64 0,.int .u64 0,.int .u64 0,.int .u64 0] 27)) (W2.heap.size+1) (vQ (List.replicate 4 0)) 27:=Row.new' (by simp) rfl
   have T9:=n9.there 0 cl.toArray.size (by simp [HLL.out,zaJ])
   have n10':=Row.setCells_other n10 W2.heap.size 0 cl (by omega)
   have T10:=n10'.there 0 ch.toArray.size (by simp [HLH.out,zaJ])
   have u9:Row ((((W2.alloc (Obj.cells #[.int .u64 0,.int .u64 0,.int .u64 0,.int .u64 0] 27)).alloc (Obj.cells #[.int .u64 0,.int .u64 0,.int .u64 0,.int .u64 0] 27)).setCells W2.heap.size 0 cl).setCells (W2.heap.size+1) 0 ch) W2.heap.size cl 27:=Row.setCells_other (Row.over n9 (by rw[HLL.out];rfl)) _ _ _ (by omega)
   have hB4:Below W2.heap.size W2 ((((W2.alloc (Obj.cells #[.int .u64 0,.int .u64 0,.int .u64 0,.int .u64 0] 27)).alloc (Obj.cells #[.int .u64 0,.int .u64 0,.int .u64 0,.int .u64 0] 27)).setCells W2.heap.size 0 cl).setCells (W2.heap.size+1) 0 ch):=zaC (zaC (((Below.refl _ _).alloc (Nat.le_refl _) _).alloc (by simp) _) (Nat.le_refl _) _) (by omega) _
   have u2:=Row.below r2 hB4 (Row.lt r2)
   have u3:=Row.below r3 hB4 (Row.lt r3)
   have u8:=Row.below p8 hB4 (Row.lt p8)
   have ub:=hb2.trans (hB4.mono hb2.size)
   clear n9 n10 n10' hB4 r2 r3 p8 hb2
   go_wp2_with (first
    |(refine wpList_store_mid rfl 27 (.tmp 9) (.tmp 25) rfl W2.heap.size 0 cl.toArray rfl rfl T9 il' ol ?_;simp only[Act.put])
    |(refine wpList_store_mid rfl 27 (.tmp 10) (.tmp 26) rfl (W2.heap.size+1) 0 ch.toArray rfl rfl T10 ih' oh ?_;simp only[Act.put];clear T9 T10;(change wpList _ _ _ _ _ ((((W2.alloc (Obj.cells #[.int .u64 0,.int .u64 0,.int .u64 0,.int .u64 0] 27)).alloc (Obj.cells #[.int .u64 0,.int .u64 0,.int .u64 0,.int .u64 0] 27)).setCells W2.heap.size 0 cl).setCells (W2.heap.size+1) 0 ch));(generalize ((((W2.alloc (Obj.cells #[.int .u64 0,.int .u64 0,.int .u64 0,.int .u64 0] 27)).alloc (Obj.cells #[.int .u64 0,.int .u64 0,.int .u64 0,.int .u64 0] 27)).setCells W2.heap.size 0 cl).setCells (W2.heap.size+1) 0 ch)=W4 at *)))
   refine zcU (by kernel_rfl) (fun listed a W=>∃ (b0 b1 b2 b3 b4:Bool) (x6 x27 x28:Value),listed=#[b0,b1,b2,b3,b4]/\a={ tmps:=#[.agg ca.toArray,.agg cb.toArray,.pointer (some ⟨w.heap.size,0,none⟩),.pointer (some ⟨w.heap.size+1,0,none⟩),.pointer (some ⟨w.heap.size+1+1,0,none⟩),.pointer (some ⟨w.heap.size+1+1+1,0,none⟩),x6,.pointer (some ⟨N7,0,none⟩),.pointer (some ⟨N8,0,none⟩),.pointer (some ⟨W2.heap.size,0,none⟩),.pointer (some ⟨W2.heap.size+1,0,none⟩),.agg cb.toArray,.bool false,undef,undef,x15,x16,x17,x18,x19,x20,x21,.tuple #[.agg cl.toArray,.agg ch.toArray],.agg cq.toArray,.tuple #[.agg cl.toArray,.agg ch.toArray],.agg cl.toArray,.agg ch.toArray,x27,x28],defers:=[] }/\Below w.heap.size w W/\Row W W2.heap.size cl 27/\Row W N8 cr 27/\Row W (w.heap.size+1+1) (if b2=true then cl else vQ (List.replicate 4 0)) 27/\Row W (w.heap.size+1+1+1) (if b3=true then cr else vQ (List.replicate 4 0)) 27/\(b0=true->x27=.agg cl.toArray)/\(b1=true->x28=.agg cr.toArray)/\(b4=true->x6=.int .i64 0)) ?_ ?_ ?_
   ·exact⟨false,false,false,false,false,.int .i64 0,undef,undef,rfl,rfl,Below.drew ub,Row.drew u9,Row.drew u8,(by rw[if_neg (by decide)];exact Row.drew u2),(by rw[if_neg (by decide)];exact Row.drew u3),(fun h=>by cases h),(fun h=>by cases h),(fun h=>by cases h)⟩
   ·clear ub u9 u8 u2 u3
    intro listed a W k hI hk
    obtain⟨b0,b1,b2,b3,b4,x6,x27,x28,rfl,rfl,ub,u9,u8,u2,u3,f0,f1,f2⟩:=hI
    have hk2:=(List.mem_filter.1 hk).2
    have hk1:k<5:=List.mem_range.1 (List.mem_filter.1 hk).1
    clear hk
    rcases (show k=0\/k=1\/k=2\/k=3\/k=4 by omega) with rfl|rfl|rfl|rfl|rfl
    ·exact zaE rfl rfl (wp_load_mid 27 (.tmp 9) rfl W2.heap.size 0 rfl cl _ u9.all Tryz.underlying27 rfl il ⟨true,b1,b2,b3,b4,x6,.agg cl.toArray,x28,rfl,rfl,ub,u9,u8,u2,u3,fun _=>rfl,f1,f2⟩)
    ·exact zaE rfl rfl (wp_load_mid 27 (.tmp 8) rfl N8 0 rfl cr _ u8.all Tryz.underlying27 rfl ir ⟨b0,true,b2,b3,b4,x6,x27,.agg cr.toArray,rfl,rfl,ub,u9,u8,u2,u3,f0,fun _=>rfl,f2⟩)
    ·simp [Region.binds] at hk2
     obtain rfl:b0=true:=by simp [hk2]
     obtain rfl:b2=false:=by simp [hk2]
     obtain rfl:=f0 rfl
     rw[if_neg (by decide)] at u2
     have T:=u2.there 0 cl.toArray.size (by simp [HLL.out,zaJ])
     have fin:=u2.over (vs:=cl) (by rw[HLL.out];rfl)
     exact zaE rfl rfl (wp_store_mid 27 (.tmp 4) (.tmp 27) rfl (w.heap.size+1+1) 0 cl.toArray rfl rfl T il' ol ⟨true,b1,true,b3,b4,x6,.agg cl.toArray,x28,rfl,rfl,zaC ub (by omega) _,Row.setCells_other u9 _ _ _ (by omega),Row.setCells_other u8 _ _ _ (by omega),(by rw[if_pos rfl];exact fin),Row.setCells_other u3 _ _ _ (by omega),fun _=>rfl,f1,f2⟩)
    ·simp [Region.binds] at hk2
     obtain rfl:b1=true:=by simp [hk2]
     obtain rfl:b3=false:=by simp [hk2]
     obtain rfl:=f1 rfl
     rw[if_neg (by decide)] at u3
     have T:=u3.there 0 cr.toArray.size (by simp [HLR.out,zaJ])
     have fin:=u3.over (vs:=cr) (by rw[HLR.out];rfl)
     exact zaE rfl rfl (wp_store_mid 27 (.tmp 5) (.tmp 28) rfl (w.heap.size+1+1+1) 0 cr.toArray rfl rfl T ir' or ⟨b0,true,b2,true,b4,x6,x27,.agg cr.toArray,rfl,rfl,zaC ub (by omega) _,Row.setCells_other u9 _ _ _ (by omega),Row.setCells_other u8 _ _ _ (by omega),Row.setCells_other u2 _ _ _ (by omega),(by rw[if_pos rfl];exact fin),f0,fun _=>rfl,f2⟩)
    ·exact zaE rfl rfl (zmK (.const (.int .i64 0)) rfl ⟨b0,b1,b2,b3,true,.int .i64 0,x27,x28,rfl,rfl,ub,u9,u8,u2,u3,f0,f1,fun _=>rfl⟩)
   ·clear ub u9 u8 u2 u3
    intro listed a W hI hr
    obtain⟨b0,b1,b2,b3,b4,x6,x27,x28,rfl,rfl,ub,u9,u8,u2,u3,f0,f1,f2⟩:=hI
    have hr2:=List.filter_eq_nil_iff.1 hr
    obtain rfl:b0=true:=by have:=hr2 0 (List.mem_range.2 (by decide));simpa [Region.binds] using this
    obtain rfl:b1=true:=by have:=hr2 1 (List.mem_range.2 (by decide));simpa [Region.binds] using this
    obtain rfl:b2=true:=by have:=hr2 2 (List.mem_range.2 (by decide));simpa [Region.binds] using this
    obtain rfl:b3=true:=by have:=hr2 3 (List.mem_range.2 (by decide));simpa [Region.binds] using this
    obtain rfl:b4=true:=by have:=hr2 4 (List.mem_range.2 (by decide));simpa [Region.binds] using this
    rw[if_pos rfl] at u2
    rw[if_pos rfl] at u3
    obtain rfl:=f2 rfl
    clear hr hr2 f0 f1 f2
    go_wp2
    exact bodyPost_ret (zeX Tryz.results78 _ _ (w.heap.size+1+1) (w.heap.size+1+1+1) 27 27 cl cr (.int .i64 0) rfl rfl rfl u2 u3 Tryz.underlying27 zaL HLL.out Tryz.underlying27 zaL HLR.out) rfl ⟨by rw[HR.out.1,HR.out.2.1,HR.out.2.2,HCL.out,HCR.out],ub⟩
namespace Wd
open Go.Lib (decDigits nDigits dg)
def nums (u:Nat):List Nat:=(decDigits u).map UInt8.toNat
end Wd
end Go.Proofs.YtedeobikfddmgaaGreat
namespace Go.Proofs.YtedeobikfddmgaaGreat
open Go Go.RowKit
open Wd
open Go.Lib (decDigits nDigits)
def P10 (w : World) : Prop := Lib.TabIs Tryz.prog w "internal/strconv.uint64pow10" .u64 Lib.pow10Tab
end Go.Proofs.YtedeobikfddmgaaGreat
namespace Go.Proofs.YtedeobikfddmgaaGreat
open Go Go.RowKit
open Wd
open Go.Lib (decDigits nDigits)
def Wc (c:List Value) (m:Nat):Prop:=c=vQ (dgs m 4)
theorem Wc.len {c:List Value} {m:Nat} (h:Wc c m):c.length=4:=by rw[h,zaJ,zaH]
theorem Wc.info {c:List Value} {m:Nat} (h:Wc c m):(Tryz.prog.info? 27).map (·.size)=some c.length:=by rw[zaL,h.len]
theorem Wc.info' {c:List Value} {m:Nat} (h:Wc c m):(Tryz.prog.info? 27).map (·.size)=some c.toArray.size:=by rw[zaL];simp [h.len]
theorem Wc.one {c:List Value} {m:Nat} (h:Wc c m):c.toArray.all (·.oneCell')=true:=all_oneCell_toArray (by rw[h];exact zbR _)
theorem Wc.there {c:List Value} {m:Nat} (h:Wc c m) {W:World} {b:Nat} {ds:List Value} {t:TypeId} (r:Row W b ds t) (hl:ds.length=4):W.there b 0 c.toArray.size:=r.there 0 _ (by simp [h.len,hl])
section
variable {P:Program} {ops:Array Oper} {rest:List Oper} {op:Oper} {a:Act} {w:World} {Q:Exit->Act->World->Prop}
theorem zaG (hw:Region.wanted op (yielded ops a.tmps)=true) (ty:TypeId) (x:Operand) (ho:op.op=.load ty x)
 (b o:Nat) (hx:a.eval x=.pointer (some ⟨b,o,none⟩)) (cs:List Value) (d:TypeDesc) (hc:w.rangeAt b o cs)
 (hu:P.underlying ty=some d) (hd:d.isRow=true) (hi:(P.info? ty).map (·.size)=some cs.length)
 (h:wpList P ops Q rest (a.put op.dst (.agg cs.toArray)) w):wpList P ops Q (op :: rest) a w:=
 BigFrame.wpList_want hw fun _ hK=>wp_load_mid ty x ho b o hx cs d hc hu hd hi (hK _ _ h)
theorem zhC (hw:Region.wanted op (yielded ops a.tmps)=true) (x y:Operand) (yt:TypeId) (ho:op.op=.binOp .eql 27 x y yt) {c d:List Value} {m n:Nat} (Hc:Wc c m) (Hd:Wc d n) (hm:m<2 ^ 256) (hn:n<2 ^ 256) (hx:a.eval x=.agg c.toArray) (hy:a.eval y=.agg d.toArray)
 {B:Bool} (hB:decide (m=n)=B) (h:wpList Tryz.prog ops Q rest (a.put op.dst (.bool B)) w):wpList Tryz.prog ops Q (op :: rest) a w:=
 zcT hw x y yt ho m n hm hn (by rw[hx,Hc]) (by rw[hy,Hd]) (by rw[hB];exact h)
end
def topDigs:List UInt8:=[49,49,53,55,57,50,48,56,57,50,51,55,51,49,54,49,57,53,52,50,51,53,55,48,57,56,53,48,48,56,54,56,55,57,48,55,56,53,51,50,54,57,57,56,52,54,54,53,54,52,48,53,54,52,48,51,57,52,53,55,53,56,52,48,48,55,57,49,51,49,50,57,54,51,57,57,51,53]
end Go.Proofs.YtedeobikfddmgaaGreat
