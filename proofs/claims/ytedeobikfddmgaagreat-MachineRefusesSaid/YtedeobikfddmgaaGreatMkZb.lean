import Derived.Test.YtedeobikfddmgaaGreatMkA
import Derived.BigQuiet
import Derived.Test.YtedeobikfddmgaaGreatMkU
set_option maxRecDepth 100000
set_option maxHeartbeats 16000000
namespace Go.Proofs.YtedeobikfddmgaaGreat
open Go Go.RowKit
open Sha
theorem zzK (g o n cap p c:Nat) (hp:p<n) (_hn:n<=1024) (w:World) (c0:w.cell? ⟨g,o+p,none⟩=some (.int .u8 (c:Int))) (hc:28<=c) (hc2:c<256):Calls Tryz.prog 11 #[.slice (some ⟨g,o,none⟩) n cap,.int .i64 (p:Int)] w fun e w'=>e=.returned (.int .i64 0)/\w'=w:=by
 have e28:(28:Int)<=(c:Int):=by omega
 go_enter Tryz.func11,Tryz.ntmps11
 go_wp2
 go_ret
 exact⟨rfl,rfl⟩
theorem zzO (g o n cap p c:Nat) (hp:p<n) (hn:n<=1024) (w:World) (c0:w.cell? ⟨g,o+p,none⟩=some (.int .u8 (c:Int))) (hc:c<28) (h2:c≠2) (h4:c≠4) (h5:c≠5) (h16:c≠16) (h14:c≠14) (h15:c≠15):Calls Tryz.prog 11 #[.slice (some ⟨g,o,none⟩) n cap,.int .i64 (p:Int)] w fun e w'=>e=.returned (.int .i64 1)/\w'=w:=by
 have e28:¬ ((28:Int)<=(c:Int)):=by omega
 have el:¬ ((n:Int)<(p:Int)+1):=by omega
 have e2:((c:Int)==2)=false:=by simp;omega
 have e4:((c:Int)==4)=false:=by simp;omega
 have e5:((c:Int)==5)=false:=by simp;omega
 have e16:((c:Int)==16)=false:=by simp;omega
 have e14:((c:Int)==14)=false:=by simp;omega
 have e15:((c:Int)==15)=false:=by simp;omega
 clear h2 h4 h5 h16 h14 h15 hc
 go_enter Tryz.func11,Tryz.ntmps11
 go_wp2
 go_ret
 exact⟨rfl,rfl⟩
theorem zkJ (g o n cap p c:Nat) (hp:p<n) (hn:n<=1024) (w:World) (c0:w.cell? ⟨g,o+p,none⟩=some (.int .u8 (c:Int))) (hc:c=2) (h1:p+1=n):Calls Tryz.prog 11 #[.slice (some ⟨g,o,none⟩) n cap,.int .i64 (p:Int)] w fun e w'=>e=.returned (.int .i64 0)/\w'=w:=by
 subst hc
 have el:(n:Int)<=(p:Int)+1:=by omega
 go_enter Tryz.func11,Tryz.ntmps11
 go_wp2
 go_ret
 exact⟨rfl,rfl⟩
theorem zkK (g o n cap p c:Nat) (hp:p<n) (hn:n<=1024) (w:World) (c0:w.cell? ⟨g,o+p,none⟩=some (.int .u8 (c:Int))) (hc:c=2) (y:Nat) (h1:p+1<n) (c1:w.cell? ⟨g,o+(p+1),none⟩=some (.int .u8 (y:Int))) (hy:y<1):Calls Tryz.prog 11 #[.slice (some ⟨g,o,none⟩) n cap,.int .i64 (p:Int)] w fun e w'=>e=.returned (.int .i64 0)/\w'=w:=by
 subst hc
 have el:¬ ((n:Int)<=(p:Int)+1):=by omega
 have el2:(p:Int)+1<(n:Int):=by omega
 have ey:(y:Int)<1:=by omega
 go_enter Tryz.func11,Tryz.ntmps11
 go_wp2
 go_ret
 exact⟨rfl,rfl⟩
theorem zjA (g o n cap p c:Nat) (hp:p<n) (hn:n<=1024) (w:World) (c0:w.cell? ⟨g,o+p,none⟩=some (.int .u8 (c:Int))) (hc:c=2) (y:Nat) (h1:p+1<n) (c1:w.cell? ⟨g,o+(p+1),none⟩=some (.int .u8 (y:Int))) (hy:32<y):Calls Tryz.prog 11 #[.slice (some ⟨g,o,none⟩) n cap,.int .i64 (p:Int)] w fun e w'=>e=.returned (.int .i64 0)/\w'=w:=by
 subst hc
 have el:¬ ((n:Int)<=(p:Int)+1):=by omega
 have el2:(p:Int)+1<(n:Int):=by omega
 have ey:¬ ((y:Int)<1):=by omega
 have ez:(32:Int)<(y:Int):=by omega
 go_enter Tryz.func11,Tryz.ntmps11
 go_wp2
 go_ret
 exact⟨rfl,rfl⟩
theorem zkI (g o n cap p c:Nat) (hp:p<n) (hn:n<=1024) (w:World) (c0:w.cell? ⟨g,o+p,none⟩=some (.int .u8 (c:Int))) (hc:c=2) (y:Nat) (h1:p+1<n) (c1:w.cell? ⟨g,o+(p+1),none⟩=some (.int .u8 (y:Int))) (hy:1<=y) (hz:y<=32) (hl:n<p+(2+y)):Calls Tryz.prog 11 #[.slice (some ⟨g,o,none⟩) n cap,.int .i64 (p:Int)] w fun e w'=>e=.returned (.int .i64 0)/\w'=w:=by
 subst hc
 have el:¬ ((n:Int)<=(p:Int)+1):=by omega
 have el2:(p:Int)+1<(n:Int):=by omega
 have ey:¬ ((y:Int)<1):=by omega
 have ez:¬ ((32:Int)<(y:Int)):=by omega
 have el3:(n:Int)<(p:Int)+(2+(y:Int)):=by omega
 go_enter Tryz.func11,Tryz.ntmps11
 go_wp2
 go_ret
 exact⟨rfl,rfl⟩
theorem zuJ (g o n cap p c:Nat) (hp:p<n) (hn:n<=1024) (w:World) (c0:w.cell? ⟨g,o+p,none⟩=some (.int .u8 (c:Int))) (hc:c=2) (y:Nat) (h1:p+1<n) (c1:w.cell? ⟨g,o+(p+1),none⟩=some (.int .u8 (y:Int))) (hy:1<=y) (hz:y<=32) (hl:p+(2+y)<=n):Calls Tryz.prog 11 #[.slice (some ⟨g,o,none⟩) n cap,.int .i64 (p:Int)] w fun e w'=>e=.returned (.int .i64 ((2+y:Nat):Int))/\w'=w:=by
 subst hc
 have el:¬ ((n:Int)<=(p:Int)+1):=by omega
 have el2:(p:Int)+1<(n:Int):=by omega
 have ey:¬ ((y:Int)<1):=by omega
 have ez:¬ ((32:Int)<(y:Int)):=by omega
 have el3:¬ ((n:Int)<(p:Int)+(2+(y:Int))):=by omega
 go_enter Tryz.func11,Tryz.ntmps11
 go_wp2
 go_ret
 exact⟨rfl,rfl⟩
theorem zlU (g o n cap p c:Nat) (hp:p<n) (hn:n<=1024) (w:World) (c0:w.cell? ⟨g,o+p,none⟩=some (.int .u8 (c:Int))) (hc:c=4) (h1:p+1=n):Calls Tryz.prog 11 #[.slice (some ⟨g,o,none⟩) n cap,.int .i64 (p:Int)] w fun e w'=>e=.returned (.int .i64 0)/\w'=w:=by
 subst hc
 have el:¬ ((p:Int)+1<(n:Int)):=by omega
 have el3:(n:Int)<(p:Int)+2:=by omega
 go_enter Tryz.func11,Tryz.ntmps11
 go_wp2
 go_ret
 exact⟨rfl,rfl⟩
theorem zkL (g o n cap p c:Nat) (hp:p<n) (hn:n<=1024) (w:World) (c0:w.cell? ⟨g,o+p,none⟩=some (.int .u8 (c:Int))) (hc:c=5) (h1:p+1=n):Calls Tryz.prog 11 #[.slice (some ⟨g,o,none⟩) n cap,.int .i64 (p:Int)] w fun e w'=>e=.returned (.int .i64 0)/\w'=w:=by
 subst hc
 have el:¬ ((p:Int)+1<(n:Int)):=by omega
 have el3:(n:Int)<(p:Int)+2:=by omega
 go_enter Tryz.func11,Tryz.ntmps11
 go_wp2
 go_ret
 exact⟨rfl,rfl⟩
theorem zlT (g o n cap p c:Nat) (hp:p<n) (hn:n<=1024) (w:World) (c0:w.cell? ⟨g,o+p,none⟩=some (.int .u8 (c:Int))) (hc:c=16) (h1:p+1=n):Calls Tryz.prog 11 #[.slice (some ⟨g,o,none⟩) n cap,.int .i64 (p:Int)] w fun e w'=>e=.returned (.int .i64 0)/\w'=w:=by
 subst hc
 have el:¬ ((p:Int)+1<(n:Int)):=by omega
 have el3:(n:Int)<(p:Int)+2:=by omega
 go_enter Tryz.func11,Tryz.ntmps11
 go_wp2
 go_ret
 exact⟨rfl,rfl⟩
theorem znL (g o n cap p c:Nat) (hp:p<n) (hn:n<=1024) (w:World) (c0:w.cell? ⟨g,o+p,none⟩=some (.int .u8 (c:Int))) (hc:c=4) (y:Nat) (h1:p+1<n) (c1:w.cell? ⟨g,o+(p+1),none⟩=some (.int .u8 (y:Int))) (hy:15<y):Calls Tryz.prog 11 #[.slice (some ⟨g,o,none⟩) n cap,.int .i64 (p:Int)] w fun e w'=>e=.returned (.int .i64 0)/\w'=w:=by
 subst hc
 have el:¬ ((n:Int)<=(p:Int)+1):=by omega
 have el2:(p:Int)+1<(n:Int):=by omega
 have ey:(15:Int)<(y:Int):=by omega
 go_enter Tryz.func11,Tryz.ntmps11
 go_wp2
 go_ret
 exact⟨rfl,rfl⟩
theorem zzL (g o n cap p c:Nat) (hp:p<n) (hn:n<=1024) (w:World) (c0:w.cell? ⟨g,o+p,none⟩=some (.int .u8 (c:Int))) (hc:c=4) (y:Nat) (h1:p+1<n) (c1:w.cell? ⟨g,o+(p+1),none⟩=some (.int .u8 (y:Int))) (hy:y<=15):Calls Tryz.prog 11 #[.slice (some ⟨g,o,none⟩) n cap,.int .i64 (p:Int)] w fun e w'=>e=.returned (.int .i64 2)/\w'=w:=by
 subst hc
 have el:¬ ((n:Int)<=(p:Int)+1):=by omega
 have el2:(p:Int)+1<(n:Int):=by omega
 have el3:¬ ((n:Int)<(p:Int)+2):=by omega
 have ey:¬ ((15:Int)<(y:Int)):=by omega
 go_enter Tryz.func11,Tryz.ntmps11
 go_wp2
 go_ret
 exact⟨rfl,rfl⟩
theorem zkM (g o n cap p c:Nat) (hp:p<n) (hn:n<=1024) (w:World) (c0:w.cell? ⟨g,o+p,none⟩=some (.int .u8 (c:Int))) (hc:c=5) (y:Nat) (h1:p+1<n) (c1:w.cell? ⟨g,o+(p+1),none⟩=some (.int .u8 (y:Int))) (hy:y<1):Calls Tryz.prog 11 #[.slice (some ⟨g,o,none⟩) n cap,.int .i64 (p:Int)] w fun e w'=>e=.returned (.int .i64 0)/\w'=w:=by
 subst hc
 have el:¬ ((n:Int)<=(p:Int)+1):=by omega
 have el2:(p:Int)+1<(n:Int):=by omega
 have ey:(y:Int)<1:=by omega
 go_enter Tryz.func11,Tryz.ntmps11
 go_wp2
 go_ret
 exact⟨rfl,rfl⟩
theorem zjB (g o n cap p c:Nat) (hp:p<n) (hn:n<=1024) (w:World) (c0:w.cell? ⟨g,o+p,none⟩=some (.int .u8 (c:Int))) (hc:c=5) (y:Nat) (h1:p+1<n) (c1:w.cell? ⟨g,o+(p+1),none⟩=some (.int .u8 (y:Int))) (hy:15<y):Calls Tryz.prog 11 #[.slice (some ⟨g,o,none⟩) n cap,.int .i64 (p:Int)] w fun e w'=>e=.returned (.int .i64 0)/\w'=w:=by
 subst hc
 have el:¬ ((n:Int)<=(p:Int)+1):=by omega
 have el2:(p:Int)+1<(n:Int):=by omega
 have ex:¬ ((y:Int)<1):=by omega
 have ey:(15:Int)<(y:Int):=by omega
 go_enter Tryz.func11,Tryz.ntmps11
 go_wp2
 go_ret
 exact⟨rfl,rfl⟩
theorem zuK (g o n cap p c:Nat) (hp:p<n) (hn:n<=1024) (w:World) (c0:w.cell? ⟨g,o+p,none⟩=some (.int .u8 (c:Int))) (hc:c=5) (y:Nat) (h1:p+1<n) (c1:w.cell? ⟨g,o+(p+1),none⟩=some (.int .u8 (y:Int))) (hx:1<=y) (hy:y<=15):Calls Tryz.prog 11 #[.slice (some ⟨g,o,none⟩) n cap,.int .i64 (p:Int)] w fun e w'=>e=.returned (.int .i64 2)/\w'=w:=by
 subst hc
 have el:¬ ((n:Int)<=(p:Int)+1):=by omega
 have el2:(p:Int)+1<(n:Int):=by omega
 have el3:¬ ((n:Int)<(p:Int)+2):=by omega
 have ex:¬ ((y:Int)<1):=by omega
 have ey:¬ ((15:Int)<(y:Int)):=by omega
 go_enter Tryz.func11,Tryz.ntmps11
 go_wp2
 go_ret
 exact⟨rfl,rfl⟩
theorem zzJ (g o n cap p c:Nat) (hp:p<n) (hn:n<=1024) (w:World) (c0:w.cell? ⟨g,o+p,none⟩=some (.int .u8 (c:Int))) (hc:c=16) (h1:p+1<n):Calls Tryz.prog 11 #[.slice (some ⟨g,o,none⟩) n cap,.int .i64 (p:Int)] w fun e w'=>e=.returned (.int .i64 2)/\w'=w:=by
 subst hc
 have el:¬ ((n:Int)<=(p:Int)+1):=by omega
 have el2:(p:Int)+1<(n:Int):=by omega
 have el3:¬ ((n:Int)<(p:Int)+2):=by omega
 go_enter Tryz.func11,Tryz.ntmps11
 go_wp2
 go_ret
 exact⟨rfl,rfl⟩
theorem zlV (g o n cap p c:Nat) (hp:p<n) (hn:n<=1024) (w:World) (c0:w.cell? ⟨g,o+p,none⟩=some (.int .u8 (c:Int))) (hc:c=14) (h1:n<p+3):Calls Tryz.prog 11 #[.slice (some ⟨g,o,none⟩) n cap,.int .i64 (p:Int)] w fun e w'=>e=.returned (.int .i64 0)/\w'=w:=by
 subst hc
 have el3:(n:Int)<(p:Int)+3:=by omega
 go_enter Tryz.func11,Tryz.ntmps11
 go_wp2
 go_ret
 exact⟨rfl,rfl⟩
theorem zzM (g o n cap p c:Nat) (hp:p<n) (hn:n<=1024) (w:World) (c0:w.cell? ⟨g,o+p,none⟩=some (.int .u8 (c:Int))) (hc:c=14) (h1:p+3<=n):Calls Tryz.prog 11 #[.slice (some ⟨g,o,none⟩) n cap,.int .i64 (p:Int)] w fun e w'=>e=.returned (.int .i64 3)/\w'=w:=by
 subst hc
 have el3:¬ ((n:Int)<(p:Int)+3):=by omega
 go_enter Tryz.func11,Tryz.ntmps11
 go_wp2
 go_ret
 exact⟨rfl,rfl⟩
theorem zlW (g o n cap p c:Nat) (hp:p<n) (hn:n<=1024) (w:World) (c0:w.cell? ⟨g,o+p,none⟩=some (.int .u8 (c:Int))) (hc:c=15) (h1:n<p+3):Calls Tryz.prog 11 #[.slice (some ⟨g,o,none⟩) n cap,.int .i64 (p:Int)] w fun e w'=>e=.returned (.int .i64 0)/\w'=w:=by
 subst hc
 have el3:(n:Int)<(p:Int)+3:=by omega
 go_enter Tryz.func11,Tryz.ntmps11
 go_wp2
 go_ret
 exact⟨rfl,rfl⟩
theorem zzN (g o n cap p c:Nat) (hp:p<n) (hn:n<=1024) (w:World) (c0:w.cell? ⟨g,o+p,none⟩=some (.int .u8 (c:Int))) (hc:c=15) (h1:p+3<=n):Calls Tryz.prog 11 #[.slice (some ⟨g,o,none⟩) n cap,.int .i64 (p:Int)] w fun e w'=>e=.returned (.int .i64 3)/\w'=w:=by
 subst hc
 have el3:¬ ((n:Int)<(p:Int)+3):=by omega
 go_enter Tryz.func11,Tryz.ntmps11
 go_wp2
 go_ret
 exact⟨rfl,rfl⟩
open Wd
def sz (d:List (BitVec 8)) (p:Nat):Nat:=match ri (d.drop p) with|none=>0|some (_,_,_,s)=>s
theorem zpK {d:List (BitVec 8)} {p:Nat} {x:BitVec 8} {r:List (BitVec 8)} (hx:d.drop p=x :: r):sz d p=if 28<=x.toNat then 0 else if r.length<ow (zaZ x.toNat) r then 0 else if (ro (zaZ x.toNat) (r.take (ow (zaZ x.toNat) r))).isNone then 0 else 1+ow (zaZ x.toNat) r:=by
 unfold sz
 rw[hx,ri]
 by_cases h1:28<=x.toNat
 ·rw[if_pos h1,if_pos h1]
 ·rw[if_neg h1,if_neg h1]
  by_cases h2:r.length<ow (zaZ x.toNat) r
  ·rw[if_pos h2,if_pos h2]
  ·rw[if_neg h2,if_neg h2]
   cases hro:ro (zaZ x.toNat) (r.take (ow (zaZ x.toNat) r)) with
   |none=>rfl
   |some y=>rfl
theorem zyY (c:Nat) (hc:c<28) (h2:c≠2) (h4:c≠4) (h5:c≠5) (h16:c≠16) (h14:c≠14) (h15:c≠15):zaZ c=0:=by
 have h:∀ c<28,(c=2\/c=4\/c=5\/c=16\/c=14\/c=15)\/zaZ c=0:=by decide
 rcases h c hc with h|h
 ·omega
 ·exact h
theorem sz_big {d:List (BitVec 8)} {p:Nat} {x:BitVec 8} {r:List (BitVec 8)} (hx:d.drop p=x :: r) (h:28<=x.toNat):sz d p=0:=by rw[zpK hx,if_pos h]
theorem ziL {d:List (BitVec 8)} {p:Nat} {x:BitVec 8} {r:List (BitVec 8)} (hx:d.drop p=x :: r) (h:r.length<ow (zaZ x.toNat) r):sz d p=0:=by
 rw[zpK hx,if_pos h]
 exact ite_self 0
theorem zuV {d:List (BitVec 8)} {p:Nat} {x:BitVec 8} {r:List (BitVec 8)} (hx:d.drop p=x :: r) (h:ro (zaZ x.toNat) (r.take (ow (zaZ x.toNat) r))=none):sz d p=0:=by
 rw[zpK hx,h]
 simp
theorem ziM {d:List (BitVec 8)} {p:Nat} {x:BitVec 8} {r:List (BitVec 8)} (hx:d.drop p=x :: r) (h0:x.toNat<28) (h1:ow (zaZ x.toNat) r<=r.length) (y:Nat × Nat) (h:ro (zaZ x.toNat) (r.take (ow (zaZ x.toNat) r))=some y):sz d p=1+ow (zaZ x.toNat) r:=by
 rw[zpK hx,h,if_neg (by omega),if_neg (by omega)]
 rfl
theorem zgP (y:BitVec 8) (r:List (BitVec 8)) (k:Nat) (h:1<=k):((y :: r).take k).getD 0 0#8=y:=by
 obtain⟨k,rfl⟩:∃ j,k=j+1:=⟨k-1,by omega⟩
 rfl
theorem zlZ (k:Nat) (hk:k≠0) (b:List (BitVec 8)) (h:(b.getD 0 0#8).toNat<lo k\/hi k<(b.getD 0 0#8).toNat):ro k b=none:=by
 unfold ro
 rw[if_neg hk,if_pos h]
theorem zfY (k:Nat) (b:List (BitVec 8)) (h:k≠0->lo k<=(b.getD 0 0#8).toNat/\(b.getD 0 0#8).toNat<=hi k):∃ y,ro k b=some y:=by
 unfold ro
 split
 ·exact⟨_,rfl⟩
 ·rename_i h0
  have:=h h0
  rw[if_neg (by omega)]
  split
  ·exact⟨_,rfl⟩
  ·split <;> exact⟨_,rfl⟩
theorem zdC {w:World} {g o:Nat} {d:List (BitVec 8)} {p:Nat} {x:BitVec 8} {r:List (BitVec 8)} (hx:d.drop p=x :: r) (hr:w.rangeAt g o (vB d)):w.cell? ⟨g,o+p,none⟩=some (.int .u8 ((x.toNat:Nat):Int)):=by
 have:=zgX hr p
 rw[hx] at this
 exact zeZ this
theorem zdO {d:List (BitVec 8)} {p:Nat} {x:BitVec 8} {r:List (BitVec 8)} (hx:d.drop p=x :: r):d.drop (p+1)=r:=by
 rw[<-List.drop_drop,hx]
 rfl
theorem zhP (g o n cap p:Nat) (d:List (BitVec 8)) (hd:d.length=n) (hp:p<n) (hn:n<=1024) (w:World) (hr:w.rangeAt g o (vB d)):Calls Tryz.prog 11 #[.slice (some ⟨g,o,none⟩) n cap,.int .i64 (p:Int)] w fun e w'=>e=.returned (.int .i64 (sz d p:Int))/\w'=w:=by
 obtain⟨x,r,hx⟩:∃ x r,d.drop p=x :: r:=by
  cases h:d.drop p with
  |nil=>have:=congrArg List.length h;rw[List.length_drop] at this;simp at this;omega
  |cons x r=>exact⟨x,r,rfl⟩
 have hl:r.length+1=n-p:=by
  have:=congrArg List.length hx
  rw[List.length_drop,List.length_cons] at this
  omega
 have c0:=zdC hx hr
 have hxl:=x.isLt
 by_cases h28:28<=x.toNat
 ·rw[sz_big hx h28]
  exact zzK g o n cap p _ hp hn w c0 h28 hxl
 have lt28:x.toNat<28:=by omega
 by_cases h2:x.toNat=2
 ·have ho:zaZ x.toNat=1:=by rw[h2];rfl
  cases r with
  |nil=>
   rw[ziL hx (by rw[ho];decide)]
   exact zkJ g o n cap p _ hp hn w c0 h2 (by simp at hl;omega)
  |cons y r=>
   have c1:=zdC (zdO hx) hr
   have hw:ow (zaZ x.toNat) (y :: r)=1+y.toNat:=by rw[ho];rfl
   have hl':r.length+2=n-p:=by simpa using hl
   have hh:((y :: r).take (ow (zaZ x.toNat) (y :: r))).getD 0 0#8=y:=zgP y r _ (by rw[hw];omega)
   by_cases y1:y.toNat<1
   ·rw[zuV hx (zlZ _ (by rw[ho];decide) _ (.inl (by rw[hh,ho];exact y1)))]
    exact zkK g o n cap p _ hp hn w c0 h2 _ (by omega) c1 y1
   by_cases y2:32<y.toNat
   ·rw[zuV hx (zlZ _ (by rw[ho];decide) _ (.inr (by rw[hh,ho];exact y2)))]
    exact zjA g o n cap p _ hp hn w c0 h2 _ (by omega) c1 y2
   by_cases y3:n<p+(2+y.toNat)
   ·rw[ziL hx (by rw[hw,List.length_cons];omega)]
    exact zkI g o n cap p _ hp hn w c0 h2 _ (by omega) c1 (by omega) (by omega) y3
   ·obtain⟨z,hz⟩:=zfY (zaZ x.toNat) ((y :: r).take (ow (zaZ x.toNat) (y :: r))) (fun _=>by rw[hh,ho];exact⟨by show 1<=_;omega,by show _<=32;omega⟩)
    rw[ziM hx lt28 (by rw[hw,List.length_cons];omega) z hz,hw,show 1+(1+y.toNat)=2+y.toNat by omega]
    exact zuJ g o n cap p _ hp hn w c0 h2 _ (by omega) c1 (by omega) (by omega) (by omega)
 by_cases h4:x.toNat=4
 ·have ho:zaZ x.toNat=2:=by rw[h4];rfl
  cases r with
  |nil=>
   rw[ziL hx (by rw[ho];decide)]
   exact zlU g o n cap p _ hp hn w c0 h4 (by simp at hl;omega)
  |cons y r=>
   have c1:=zdC (zdO hx) hr
   have hw:ow (zaZ x.toNat) (y :: r)=1:=by rw[ho];rfl
   have hl':r.length+2=n-p:=by simpa using hl
   have hyl:=y.isLt
   have hh:((y :: r).take (ow (zaZ x.toNat) (y :: r))).getD 0 0#8=y:=zgP y r _ (by rw[hw];omega)
   by_cases y2:15<y.toNat
   ·rw[zuV hx (zlZ _ (by rw[ho];decide) _ (.inr (by rw[hh,ho];exact y2)))]
    exact znL g o n cap p _ hp hn w c0 h4 _ (by omega) c1 y2
   obtain⟨z,hz⟩:=zfY (zaZ x.toNat) ((y :: r).take (ow (zaZ x.toNat) (y :: r))) (fun _=>by rw[hh,ho];exact⟨by show 0<=_;omega,by show _<=15;omega⟩)
   rw[ziM hx lt28 (by rw[hw,List.length_cons];omega) z hz,hw]
   exact zzL g o n cap p _ hp hn w c0 h4 _ (by omega) c1 (by omega)
 by_cases h5:x.toNat=5
 ·have ho:zaZ x.toNat=3:=by rw[h5];rfl
  cases r with
  |nil=>
   rw[ziL hx (by rw[ho];decide)]
   exact zkL g o n cap p _ hp hn w c0 h5 (by simp at hl;omega)
  |cons y r=>
   have c1:=zdC (zdO hx) hr
   have hw:ow (zaZ x.toNat) (y :: r)=1:=by rw[ho];rfl
   have hl':r.length+2=n-p:=by simpa using hl
   have hyl:=y.isLt
   have hh:((y :: r).take (ow (zaZ x.toNat) (y :: r))).getD 0 0#8=y:=zgP y r _ (by rw[hw];omega)
   by_cases y1:y.toNat<1
   ·rw[zuV hx (zlZ _ (by rw[ho];decide) _ (.inl (by rw[hh,ho];exact y1)))]
    exact zkM g o n cap p _ hp hn w c0 h5 _ (by omega) c1 y1
   by_cases y2:15<y.toNat
   ·rw[zuV hx (zlZ _ (by rw[ho];decide) _ (.inr (by rw[hh,ho];exact y2)))]
    exact zjB g o n cap p _ hp hn w c0 h5 _ (by omega) c1 y2
   obtain⟨z,hz⟩:=zfY (zaZ x.toNat) ((y :: r).take (ow (zaZ x.toNat) (y :: r))) (fun _=>by rw[hh,ho];exact⟨by show 1<=_;omega,by show _<=15;omega⟩)
   rw[ziM hx lt28 (by rw[hw,List.length_cons];omega) z hz,hw]
   exact zuK g o n cap p _ hp hn w c0 h5 _ (by omega) c1 (by omega) (by omega)
 by_cases h16:x.toNat=16
 ·have ho:zaZ x.toNat=4:=by rw[h16];rfl
  cases r with
  |nil=>
   rw[ziL hx (by rw[ho];decide)]
   exact zlT g o n cap p _ hp hn w c0 h16 (by simp at hl;omega)
  |cons y r=>
   have c1:=zdC (zdO hx) hr
   have hw:ow (zaZ x.toNat) (y :: r)=1:=by rw[ho];rfl
   have hl':r.length+2=n-p:=by simpa using hl
   have hyl:=y.isLt
   have hh:((y :: r).take (ow (zaZ x.toNat) (y :: r))).getD 0 0#8=y:=zgP y r _ (by rw[hw];omega)
   obtain⟨z,hz⟩:=zfY (zaZ x.toNat) ((y :: r).take (ow (zaZ x.toNat) (y :: r))) (fun _=>by rw[hh,ho];exact⟨by show 0<=_;omega,by show _<=255;omega⟩)
   rw[ziM hx lt28 (by rw[hw,List.length_cons];omega) z hz,hw]
   exact zzJ g o n cap p _ hp hn w c0 h16 (by omega)
 by_cases h14:x.toNat=14
 ·have ho:zaZ x.toNat=5:=by rw[h14];rfl
  have hw:ow (zaZ x.toNat) r=2:=by rw[ho];rfl
  by_cases y1:n<p+3
  ·rw[ziL hx (by rw[hw];omega)]
   exact zlV g o n cap p _ hp hn w c0 h14 y1
  ·obtain⟨z,hz⟩:=zfY (zaZ x.toNat) (r.take (ow (zaZ x.toNat) r)) (fun _=>by rw[ho];exact⟨Nat.zero_le _,by show _<=255;have:=((r.take (ow 5 r)).getD 0 0#8).isLt;omega⟩)
   rw[ziM hx lt28 (by rw[hw];omega) z hz,hw]
   exact zzM g o n cap p _ hp hn w c0 h14 (by omega)
 by_cases h15:x.toNat=15
 ·have ho:zaZ x.toNat=5:=by rw[h15];rfl
  have hw:ow (zaZ x.toNat) r=2:=by rw[ho];rfl
  by_cases y1:n<p+3
  ·rw[ziL hx (by rw[hw];omega)]
   exact zlW g o n cap p _ hp hn w c0 h15 y1
  ·obtain⟨z,hz⟩:=zfY (zaZ x.toNat) (r.take (ow (zaZ x.toNat) r)) (fun _=>by rw[ho];exact⟨Nat.zero_le _,by show _<=255;have:=((r.take (ow 5 r)).getD 0 0#8).isLt;omega⟩)
   rw[ziM hx lt28 (by rw[hw];omega) z hz,hw]
   exact zzN g o n cap p _ hp hn w c0 h15 (by omega)
 have ho:zaZ x.toNat=0:=zyY _ lt28 h2 h4 h5 h16 h14 h15
 obtain⟨z,hz⟩:=zfY (zaZ x.toNat) (r.take (ow (zaZ x.toNat) r)) (fun h=>absurd ho h)
 rw[ziM hx lt28 (by rw[ho];exact Nat.zero_le _) z hz,ho]
 exact zzO g o n cap p _ hp hn w c0 lt28 h2 h4 h5 h16 h14 h15
end Go.Proofs.YtedeobikfddmgaaGreat
