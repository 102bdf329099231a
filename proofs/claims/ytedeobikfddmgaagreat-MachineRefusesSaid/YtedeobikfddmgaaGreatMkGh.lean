import Derived.Test.YtedeobikfddmgaaGreatMkAA
import Derived.Test.YtedeobikfddmgaaGreatWRdM
import Derived.Test.YtedeobikfddmgaaGreatWDig
import Derived.Test.YtedeobikfddmgaaGreatWRd
import Derived.Test.YtedeobikfddmgaaGreatMkB
import Derived.Test.YtedeobikfddmgaaGreatWVU
import Derived.Laws.AppendOwn
import Derived.Laws.OwnMore
import Derived.Test.YtedeobikfddmgaaGreatWKn
import Derived.Test.YtedeobikfddmgaaGreatMkDb
set_option maxRecDepth 100000
set_option maxHeartbeats 16000000
namespace Go.Proofs.YtedeobikfddmgaaGreat
open Go
namespace Wd
def ht (a i:Nat):Nat:=a / 256 ^ i % 256
theorem zdH (a i:Nat):ht a i<256:=Nat.mod_lt _ (by decide)
theorem zkX (i:Nat):0<256 ^ i:=Nat.pow_pos (by decide)
theorem zjI (a i:Nat):a % 256 ^ (i+1)=a % 256 ^ i+ht a i*256 ^ i:=by
 unfold ht
 rw[Nat.pow_succ,Nat.mod_mul,Nat.mul_comm]
theorem zhY (a n i:Nat) (h:a<256 ^ n) (hi:n<=i):ht a i=0:=by
 unfold ht
 rw[Nat.div_eq_of_lt (Nat.lt_of_lt_of_le h (Nat.pow_le_pow_right (by decide) hi))]
theorem zmR (a b i:Nat) (h:a % 256 ^ (i+1)=b % 256 ^ (i+1)):ht a i=ht b i:=by
 have key:∀ x:Nat,ht x i=x % 256 ^ (i+1) / 256 ^ i:=fun x=>by
  unfold ht
  rw[Nat.pow_succ,Nat.mod_mul_right_div_self]
 rw[key,key,h]
theorem zsY (a i:Nat) (h:a<256 ^ (i+1)):ht a i=a / 256 ^ i:=by
 unfold ht
 refine Nat.mod_eq_of_lt (Nat.div_lt_of_lt_mul ?_)
 rw[<-Nat.pow_succ];exact h
def cr (a b t:Nat):Nat:=(a % 256 ^ t+b % 256 ^ t) / 256 ^ t
theorem cr_zero (a b:Nat):cr a b 0=0:=by simp [cr,Nat.mod_one]
theorem cr_eq (a b t:Nat):(a+b) / 256 ^ t=a / 256 ^ t+b / 256 ^ t+cr a b t:=by
 unfold cr
 have hp:0<256 ^ t:=zkX t
 have h1:=Nat.div_add_mod a (256 ^ t)
 have h2:=Nat.div_add_mod b (256 ^ t)
 have e:a+b=(a % 256 ^ t+b % 256 ^ t)+256 ^ t*(a / 256 ^ t+b / 256 ^ t):=by rw[Nat.mul_add];omega
 have h3:(a+b) / 256 ^ t=((a % 256 ^ t+b % 256 ^ t)+256 ^ t*(a / 256 ^ t+b / 256 ^ t)) / 256 ^ t:=by rw[<-e]
 rw[h3,Nat.add_mul_div_left _ _ hp]
 omega
theorem cr_le (a b t:Nat):cr a b t<=1:=by
 unfold cr
 have hp:0<256 ^ t:=zkX t
 have h1:=Nat.mod_lt a hp
 have h2:=Nat.mod_lt b hp
 have:(a % 256 ^ t+b % 256 ^ t) / 256 ^ t<2:=Nat.div_lt_of_lt_mul (by omega)
 omega
theorem cr_step (a b t:Nat):ht a t+ht b t+cr a b t=ht (a+b) t+256*cr a b (t+1):=by
 have h1:=cr_eq a b t
 have h2:=cr_eq a b (t+1)
 unfold ht
 rw[Nat.pow_succ,<-Nat.div_div_eq_div_mul,<-Nat.div_div_eq_div_mul,<-Nat.div_div_eq_div_mul] at h2
 generalize (a+b) / 256 ^ t=s at *
 generalize a / 256 ^ t=u at *
 generalize b / 256 ^ t=v at *
 generalize cr a b t=c at *
 generalize cr a b (t+1)=d at *
 omega
theorem cr_top (a b n:Nat) (ha:a<256 ^ n) (hb:b<256 ^ n):cr a b n=ht (a+b) n:=by
 have h1:=cr_eq a b n
 rw[Nat.div_eq_of_lt ha,Nat.div_eq_of_lt hb] at h1
 have h2:=cr_le a b n
 unfold ht
 rw[h1]
 omega
def bw (a b t:Nat):Nat:=if a % 256 ^ t<b % 256 ^ t then 1 else 0
theorem bw_zero (a b:Nat):bw a b 0=0:=by simp [bw,Nat.mod_one]
theorem zwG (a b t:Nat):bw a b t<=1:=by unfold bw;split <;> omega
theorem bw_step (a b t:Nat) (h:b<=a):ht a t+256*bw a b (t+1)=ht b t+bw a b t+ht (a-b) t:=by
 have hp:0<256 ^ t:=zkX t
 have ha:=zjI a t
 have hb:=zjI b t
 have hd:=zjI (a-b) t
 have h1:=Nat.mod_lt a hp
 have h2:=Nat.mod_lt b hp
 have h3:=Nat.mod_lt (a-b) hp
 have x1:=zdH a t
 have x2:=zdH b t
 have x3:=zdH (a-b) t
 have key:∀ s,(a-b) % 256 ^ s+b % 256 ^ s=a % 256 ^ s+bw a b s*256 ^ s:=fun s=>by
  have hps:0<256 ^ s:=zkX s
  have e:((a-b) % 256 ^ s+b % 256 ^ s) % 256 ^ s=a % 256 ^ s:=by
   rw[<-Nat.add_mod,Nat.sub_add_cancel h]
  have y1:=Nat.mod_lt (a-b) hps
  have y2:=Nat.mod_lt b hps
  have y3:=Nat.mod_lt a hps
  unfold bw
  generalize (a-b) % 256 ^ s=u at *
  generalize b % 256 ^ s=v at *
  generalize a % 256 ^ s=z at *
  generalize 256 ^ s=p at *
  rcases Nat.lt_or_ge (u+v) p with hlt|hge
  ·rw[Nat.mod_eq_of_lt hlt] at e
   rw[if_neg (by omega)];omega
  ·have e2:(u+v) % p=u+v-p:=by
    rw[Nat.mod_eq_sub_mod hge,Nat.mod_eq_of_lt (by omega)]
   rw[e2] at e
   rw[if_pos (by omega)];omega
 have k0:=key t
 have k1:=key (t+1)
 rw[ha,hb,hd,Nat.pow_succ] at k1
 have b0:=zwG a b t
 have b1:=zwG a b (t+1)
 generalize bw a b (t+1)=B1 at *
 generalize bw a b t=B0 at *
 generalize ht a t=A at *
 generalize ht b t=Bb at *
 generalize ht (a-b) t=Dd at *
 generalize 256 ^ t=p at *
 have e1:(Dd+Bb+B0)*p=(A+256*B1)*p:=by grind
 have:=Nat.eq_of_mul_eq_mul_right hp e1
 omega
theorem zhX (a t:Nat):a / 256 ^ t=256*(a / 256 ^ (t+1))+ht a t:=by
 unfold ht
 rw[Nat.pow_succ,<-Nat.div_div_eq_div_mul]
 omega
theorem zsX (a b t:Nat) (h:a / 256 ^ (t+1)=b / 256 ^ (t+1)) (hl:ht a t<ht b t):a<b:=by
 have h1:=zhX a t
 have h2:=zhX b t
 have h3:a / 256 ^ t<b / 256 ^ t:=by omega
 exact Nat.lt_of_not_le (fun h4=>by have:=Nat.div_le_div_right (c:=256 ^ t) h4;omega)
theorem ht_same (a b t:Nat) (h:a / 256 ^ (t+1)=b / 256 ^ (t+1)) (he:ht a t=ht b t):a / 256 ^ t=b / 256 ^ t:=by
 rw[zhX a t,zhX b t,h,he]
def tm (P x s b m:Nat):Nat:=P % 256 ^ (s+m)+x*256 ^ s*(b % 256 ^ m)
theorem tm_zero (P x s b:Nat):tm P x s b 0 / 256 ^ (s+0)=0:=by
 unfold tm
 rw[Nat.pow_zero,Nat.mod_one,Nat.mul_zero,Nat.add_zero,Nat.add_zero]
 exact Nat.div_eq_of_lt (Nat.mod_lt _ (zkX s))
theorem tm_succ (P x s b m:Nat):tm P x s b (m+1)=tm P x s b m+(ht P (s+m)+x*ht b m)*256 ^ (s+m):=by
 unfold tm
 rw[show s+(m+1)=(s+m)+1 by omega,zjI P (s+m),zjI b m,Nat.pow_add 256 s m]
 generalize ht P (s+m)=u
 generalize ht b m=v
 generalize 256 ^ s=p
 generalize 256 ^ m=q
 generalize P % (p*q)=y
 generalize b % q=z
 grind
theorem tm_step (P x s b m:Nat):(ht P (s+m)+x*ht b m+tm P x s b m / 256 ^ (s+m)) % 256=ht (P+x*256 ^ s*b) (s+m)/\(ht P (s+m)+x*ht b m+tm P x s b m / 256 ^ (s+m)) / 256=tm P x s b (m+1) / 256 ^ (s+(m+1)):=by
 have hp:=zkX (s+m)
 have e:tm P x s b (m+1) / 256 ^ (s+m)=ht P (s+m)+x*ht b m+tm P x s b m / 256 ^ (s+m):=by
  rw[tm_succ,Nat.add_mul_div_right _ _ hp];omega
 rw[<-e]
 constructor
 ·refine zmR (tm P x s b (m+1)) _ (s+m) ?_
  have h1:=Nat.div_add_mod P (256 ^ (s+m+1))
  have h2:=Nat.div_add_mod b (256 ^ (m+1))
  have e2:P+x*256 ^ s*b=tm P x s b (m+1)+256 ^ (s+m+1)*(P / 256 ^ (s+m+1)+x*(b / 256 ^ (m+1))):=by
   unfold tm
   rw[show s+(m+1)=s+m+1 by omega]
   have e3:256 ^ (s+m+1)=256 ^ s*256 ^ (m+1):=by rw[<-Nat.pow_add];rfl
   generalize P / 256 ^ (s+m+1)=u at *
   generalize P % 256 ^ (s+m+1)=v at *
   generalize b / 256 ^ (m+1)=y at *
   generalize b % 256 ^ (m+1)=z at *
   rw[<-h1,<-h2,e3]
   generalize 256 ^ s=p
   generalize 256 ^ (m+1)=q
   grind
  rw[e2,Nat.add_mul_mod_self_left]
 ·rw[show s+(m+1)=(s+m)+1 by omega,Nat.pow_succ,<-Nat.div_div_eq_div_mul]
theorem zkO (P x s b m:Nat) (hx:x<256):tm P x s b m / 256 ^ (s+m)<256:=by
 refine Nat.div_lt_of_lt_mul ?_
 unfold tm
 have h1:=Nat.mod_lt P (zkX (s+m))
 have h2:=Nat.mod_lt b (zkX m)
 rw[Nat.pow_add] at *
 generalize P % (256 ^ s*256 ^ m)=u at *
 generalize b % 256 ^ m=v at *
 have h3:x*256 ^ s*v<=255*256 ^ s*v:=Nat.mul_le_mul_right _ (Nat.mul_le_mul_right _ (by omega))
 have h4:255*256 ^ s*v<=255*256 ^ s*256 ^ m:=Nat.mul_le_mul_left _ (by omega)
 have h5:255*256 ^ s*256 ^ m=255*(256 ^ s*256 ^ m):=by rw[Nat.mul_assoc]
 omega
theorem tm_end (P x s b:Nat) (hP:P<256 ^ (s+32)) (hb:b<256 ^ 32) (hx:x<256):tm P x s b 32 / 256 ^ (s+32)=ht (P+x*256 ^ s*b) (s+32)/\P+x*256 ^ s*b<256 ^ (s+32+1):=by
 have e:tm P x s b 32=P+x*256 ^ s*b:=by unfold tm;rw[Nat.mod_eq_of_lt hP,Nat.mod_eq_of_lt hb]
 have h:=zkO P x s b 32 hx
 rw[e] at h ⊢
 have h2:P+x*256 ^ s*b<256 ^ (s+32)*256:=by
  rcases Nat.lt_or_ge (P+x*256 ^ s*b) (256 ^ (s+32)*256) with q|q
  ·exact q
  ·have:=Nat.div_le_div_right (c:=256 ^ (s+32)) q
   rw[Nat.mul_div_cancel_left _ (zkX _)] at this
   omega
 rw[<-Nat.pow_succ] at h2
 exact⟨(zsY _ _ h2).symm,h2⟩
theorem tm_next (a b s:Nat):a % 256 ^ s*b+ht a s*256 ^ s*b=a % 256 ^ (s+1)*b:=by
 rw[zjI,Nat.add_mul]
theorem yaA (a b s:Nat) (hb:b<256 ^ 32):a % 256 ^ s*b<256 ^ (s+32):=by
 rw[Nat.pow_add]
 exact Nat.mul_lt_mul_of_lt_of_lt (Nat.mod_lt _ (zkX s)) hb
theorem sh_zero (R e:Nat) (he:e<2):ht (2*R+e) 0=ht R 0 % 128*2+e:=by
 unfold ht;rw[Nat.pow_zero,Nat.div_one,Nat.div_one];omega
theorem sh_succ (R e p:Nat) (he:e<2):ht (2*R+e) (p+1)=ht R (p+1) % 128*2+ht R p / 128:=by
 have hp:=zkX p
 have h1:(2*R+e) / 256 ^ p=2*(R / 256 ^ p)+(2*(R % 256 ^ p)+e) / 256 ^ p:=by
  have h:=Nat.div_add_mod R (256 ^ p)
  have e2:2*R+e=(2*(R % 256 ^ p)+e)+256 ^ p*(2*(R / 256 ^ p)):=by
   generalize R / 256 ^ p=u at *
   generalize R % 256 ^ p=v at *
   rw[<-h]
   grind
  rw[e2,Nat.add_mul_div_left _ _ hp]
  omega
 have h2:(2*(R % 256 ^ p)+e) / 256 ^ p<=1:=by
  have:=Nat.mod_lt R hp
  have h3:(2*(R % 256 ^ p)+e) / 256 ^ p<2:=Nat.div_lt_of_lt_mul (by omega)
  omega
 unfold ht
 rw[Nat.pow_succ,<-Nat.div_div_eq_div_mul,<-Nat.div_div_eq_div_mul,h1]
 generalize R / 256 ^ p=U at *
 generalize (2*(R % 256 ^ p)+e) / 256 ^ p=f at *
 omega
def hbit (a i:Nat):Nat:=a / 2 ^ (255-i) % 2
theorem hbit_lt (a i:Nat):hbit a i<2:=Nat.mod_lt _ (by decide)
theorem hbit_ht (a i:Nat) (hi:i<256):ht a (31-i / 8) / 2 ^ (7-i % 8) % 2=hbit a i:=by
 unfold ht hbit
 have e1:256 ^ (31-i / 8)=2 ^ (8*(31-i / 8)):=by rw[show (256:Nat)=2 ^ 8 by decide,<-Nat.pow_mul]
 have e2:255-i=8*(31-i / 8)+(7-i % 8):=by omega
 rw[e1,e2,Nat.pow_add,<-Nat.div_div_eq_div_mul]
 generalize a / 2 ^ (8*(31-i / 8))=U
 have hs:7-i % 8<=7:=by omega
 generalize 7-i % 8=s at *
 have e3:256=2 ^ s*(2*2 ^ (7-s)):=by
  rw[<-Nat.pow_succ',<-Nat.pow_add,show s+(7-s+1)=8 by omega]
 rw[e3,Nat.mod_mul_right_div_self,Nat.mod_mul_right_mod]
theorem zsW (a i:Nat) (hi:i<256):a / 2 ^ (256-(i+1))=2*(a / 2 ^ (256-i))+hbit a i:=by
 unfold hbit
 have e:256-i=(255-i)+1:=by omega
 rw[show 256-(i+1)=255-i by omega,e,Nat.pow_succ,<-Nat.div_div_eq_div_mul]
 omega
theorem or_bit:∀ x:Fin 256,∀ s:Fin 8,x.1 % 2 ^ (s.1+1)=0->x.1 ||| 2 ^ s.1=x.1+2 ^ s.1/\x.1+2 ^ s.1<256:=by decide +kernel
theorem q_low (Q i:Nat) (hi:i<256):ht (Q*2 ^ (256-i)) (31-i / 8) % 2 ^ (7-i % 8+1)=0:=by
 unfold ht
 have e1:256 ^ (31-i / 8)=2 ^ (8*(31-i / 8)):=by rw[show (256:Nat)=2 ^ 8 by decide,<-Nat.pow_mul]
 have e2:256-i=(7-i % 8+1)+8*(31-i / 8):=by omega
 rw[e1,e2,Nat.pow_add,<-Nat.mul_assoc,Nat.mul_div_cancel _ (Nat.two_pow_pos _)]
 have hs:7-i % 8+1<=8:=by omega
 generalize 7-i % 8+1=s at *
 have e3:256=2 ^ s*2 ^ (8-s):=by
  rw[<-Nat.pow_add,show s+(8-s)=8 by omega]
 rw[e3,Nat.mod_mul_right_mod,Nat.mul_mod_left]
theorem ht_add (a x p j:Nat) (h:ht a p+x<256):ht (a+x*256 ^ p) j=if j=p then ht a p+x else ht a j:=by
 unfold ht at *
 rcases Nat.lt_trichotomy j p with hj|hj|hj
 ·rw[if_neg (by omega)]
  have e:x*256 ^ p=256 ^ j*(256*(256 ^ (p-j-1)*x)):=by
   rw[<-Nat.mul_assoc,<-Nat.pow_succ,<-Nat.mul_assoc,<-Nat.pow_add,show j+1+(p-j-1)=p by omega,Nat.mul_comm]
  rw[e,Nat.add_mul_div_left _ _ (zkX j),Nat.add_mul_mod_self_left]
 ·subst hj
  rw[if_pos rfl,Nat.add_mul_div_right _ _ (zkX j)]
  omega
 ·rw[if_neg (by omega)]
  have e:256 ^ j=256 ^ p*(256*256 ^ (j-p-1)):=by
   rw[<-Nat.mul_assoc,<-Nat.pow_succ,<-Nat.pow_add,show p+1+(j-p-1)=j by omega]
  rw[e,<-Nat.div_div_eq_div_mul,<-Nat.div_div_eq_div_mul,<-Nat.div_div_eq_div_mul,<-Nat.div_div_eq_div_mul,Nat.add_mul_div_right _ _ (zkX p)]
  generalize a / 256 ^ p=U at *
  rw[show (U+x) / 256=U / 256 by omega]
theorem q_put (Q i j:Nat) (hi:i<256) (hj:j<32):(if j=i / 8 then ht (Q*2 ^ (256-i)) (31-i / 8)+2 ^ (7-i % 8) else ht (Q*2 ^ (256-i)) (31-j))=ht ((2*Q+1)*2 ^ (256-(i+1))) (31-j):=by
 have h0:=q_low Q i hi
 have h1:=zdH (Q*2 ^ (256-i)) (31-i / 8)
 have h2:=(or_bit ⟨_,h1⟩ ⟨7-i % 8,by omega⟩ h0).2
 simp only at h2
 have e:(2*Q+1)*2 ^ (256-(i+1))=Q*2 ^ (256-i)+2 ^ (7-i % 8)*256 ^ (31-i / 8):=by
  have e1:256 ^ (31-i / 8)=2 ^ (8*(31-i / 8)):=by rw[show (256:Nat)=2 ^ 8 by decide,<-Nat.pow_mul]
  rw[e1,<-Nat.pow_add,show 7-i % 8+8*(31-i / 8)=256-(i+1) by omega,show 256-i=(256-(i+1))+1 by omega,Nat.pow_succ]
  generalize 2 ^ (256-(i+1))=p
  grind
 rw[e,ht_add _ _ _ _ h2]
 by_cases h:j=i / 8
 ·rw[if_pos h,if_pos (by omega)]
 ·rw[if_neg h,if_neg (by omega)]
theorem q_zero (Q i:Nat) (hi:i<256):Q*2 ^ (256-i)=(2*Q)*2 ^ (256-(i+1)):=by
 rw[show 256-i=(256-(i+1))+1 by omega,Nat.pow_succ]
 generalize 2 ^ (256-(i+1))=p
 grind
theorem zlD (A b e:Nat) (hb:0<b) (he:e<2):(2*A+e) / b=(if b<=2*(A % b)+e then 2*(A / b)+1 else 2*(A / b))/\(2*A+e) % b=(if b<=2*(A % b)+e then 2*(A % b)+e-b else 2*(A % b)+e):=by
 have h1:=Nat.div_add_mod A b
 have h2:=Nat.mod_lt A hb
 generalize A / b=q at *
 generalize A % b=r at *
 have key:∀ q' r',2*A+e=b*q'+r'->r'<b->(2*A+e) / b=q'/\(2*A+e) % b=r':=fun q' r' h hr=>by
  rw[h,Nat.mul_add_div hb,Nat.mul_add_mod,Nat.div_eq_of_lt hr,Nat.mod_eq_of_lt hr]
  exact⟨rfl,rfl⟩
 by_cases h:b<=2*r+e
 ·rw[if_pos h,if_pos h]
  refine key _ _ ?_ (by omega)
  rw[Nat.mul_add,Nat.mul_one,<-h1]
  have:b*(2*q)=2*(b*q):=by grind
  omega
 ·rw[if_neg h,if_neg h]
  refine key _ _ ?_ (by omega)
  have:b*(2*q)=2*(b*q):=by grind
  omega
theorem zoN (a i:Nat):ht a i=by8 a i:=by
 unfold ht by8
 rw[show (256:Nat)=2 ^ 8 by decide,<-Nat.pow_mul]
theorem ht_lim (a p:Nat):lim a (p / 8) / 2 ^ (p % 8*8) % 256=ht a p:=by rw[zrP,zoN]
def hiG (a k:Nat):Nat:=a / 256 ^ k*256 ^ k
theorem zyE (a:Nat):hiG a 0=a:=by unfold hiG;rw[Nat.pow_zero,Nat.div_one,Nat.mul_one]
theorem hiG_top (a n:Nat) (h:a<256 ^ n):hiG a n=0:=by unfold hiG;rw[Nat.div_eq_of_lt h,Nat.zero_mul]
theorem hiG_le (a k:Nat):hiG a k<=a:=Nat.div_mul_le_self _ _
theorem zyD (a k:Nat):hiG a k=hiG a (k+1)+ht a k*256 ^ k:=by
 unfold hiG
 rw[zhX a k,Nat.add_mul,Nat.pow_succ]
 generalize a / (256 ^ k*256)=u
 grind
theorem put_hiG (a k:Nat) (h:k<32) (ha:a<2 ^ 256):lim (hiG a (k+1)) (k / 8) ||| ht a k*2 ^ (k % 8*8)=lim (hiG a (k+1)) (k / 8)+ht a k*2 ^ (k % 8*8)/\(dgs (hiG a (k+1)) 4).set (k / 8) (lim (hiG a (k+1)) (k / 8)+ht a k*2 ^ (k % 8*8))=dgs (hiG a k) 4/\ht a k*2 ^ (k % 8*8)<18446744073709551616:=by
 have hq:k / 8<4:=by omega
 have hk:256 ^ k=18446744073709551616 ^ (k / 8)*2 ^ (k % 8*8):=by
  rw[<-znF,<-Nat.pow_add,show (256:Nat)=2 ^ 8 by decide,<-Nat.pow_mul,show 64*(k / 8)+k % 8*8=8*k by omega]
 have hb:=zdH a k
 have hr2:2 ^ (k % 8*8)<=72057594037927936:=Nat.pow_le_pow_right (n:=2) (by decide) (show k % 8*8<=56 by omega)
 have hd:ht a k*2 ^ (k % 8*8)<=255*2 ^ (k % 8*8):=Nat.mul_le_mul_right _ (by omega)
 have p3:ht a k*2 ^ (k % 8*8)<18446744073709551616:=by omega
 have hM4:hiG a (k+1)<18446744073709551616 ^ 4:=Nat.lt_of_le_of_lt (hiG_le _ _) (by rw[<-znF];exact ha)
 have e64:(18446744073709551616:Nat)=2 ^ (k % 8*8+8)*2 ^ (56-k % 8*8):=by
  rw[<-Nat.pow_add,show k % 8*8+8+(56-k % 8*8)=64 by omega]
 obtain⟨c,hc⟩:∃ c,lim (hiG a (k+1)) (k / 8)=2 ^ (k % 8*8+8)*c:=by
  rw[zeD]
  have e1:hiG a (k+1)=18446744073709551616 ^ (k / 8)*(2 ^ (k % 8*8+8)*(a / 256 ^ (k+1))):=by
   unfold hiG
   rw[Nat.pow_succ,hk,show 2 ^ (k % 8*8+8)=2 ^ (k % 8*8)*256 by rw[Nat.pow_add]]
   generalize a / (18446744073709551616 ^ (k / 8)*2 ^ (k % 8*8)*256)=u
   grind
  rw[e1,Nat.mul_div_cancel_left _ (pB _)]
  generalize a / 256 ^ (k+1)=u
  rw[e64,Nat.mul_mod_mul_left]
  exact⟨_,rfl⟩
 have hor:lim (hiG a (k+1)) (k / 8) ||| ht a k*2 ^ (k % 8*8)=lim (hiG a (k+1)) (k / 8)+ht a k*2 ^ (k % 8*8):=by
  rw[hc]
  refine (Nat.two_pow_add_eq_or_of_lt ?_ c).symm
  rw[Nat.pow_add]
  have:=Nat.two_pow_pos (k % 8*8)
  have h2:ht a k*2 ^ (k % 8*8)<256*2 ^ (k % 8*8):=Nat.mul_lt_mul_of_pos_right hb this
  omega
 have hlt:lim (hiG a (k+1)) (k / 8)+ht a k*2 ^ (k % 8*8)<18446744073709551616:=by
  rw[<-hor]
  exact Nat.or_lt_two_pow (n:=64) (zbQ _ _) p3
 refine⟨hor,?_,p3⟩
 have n1:=nset (dgs (hiG a (k+1)) 4) (k / 8) (lim (hiG a (k+1)) (k / 8)+ht a k*2 ^ (k % 8*8)) (by rw[zaH];exact hq)
 rw[zbP _ _ _ hq,zdY _ _ hM4] at n1
 have hs:=zeC ((dgs (hiG a (k+1)) 4).set (k / 8) (lim (hiG a (k+1)) (k / 8)+ht a k*2 ^ (k % 8*8))) (zfX _ _ _ (zfR _ _) hlt)
 rw[List.length_set,zaH] at hs
 have e:(lim (hiG a (k+1)) (k / 8)+ht a k*2 ^ (k % 8*8))*18446744073709551616 ^ (k / 8)=lim (hiG a (k+1)) (k / 8)*18446744073709551616 ^ (k / 8)+ht a k*256 ^ k:=by
  rw[hk];grind
 rw[e] at n1
 have hv:num ((dgs (hiG a (k+1)) 4).set (k / 8) (lim (hiG a (k+1)) (k / 8)+ht a k*2 ^ (k % 8*8)))=hiG a k:=by
  rw[zyD a k];omega
 rw[hv] at hs
 exact hs.symm
theorem p32:(256:Nat) ^ 32=2 ^ 256:=by rw[show (256:Nat)=2 ^ 8 by decide,<-Nat.pow_mul]
def hts (a n t:Nat):List Nat:=(List.range t).map (fun j=>ht a (n-1-j))
theorem zcX (a n t:Nat):(hts a n t).length=t:=by simp [hts]
theorem zyF (a n t:Nat):hts a n (t+1)=hts a n t++[ht a (n-1-t)]:=by simp [hts,List.range_succ]
theorem zjX (a n t j:Nat) (h:j<t):(hts a n t).getD j 0=ht a (n-1-j):=by simp [hts,h]
end Wd
open Go.RowKit Wd
def Ch (W:World) (N o n a:Nat):Prop:=N<W.heap.size/\∀ t,t<n->W.cell? ⟨N,o+t,none⟩=some (.int .i64 ((ht a (n-1-t):Nat):Int))
theorem Ch.below {W W':World} {N o n a B:Nat} (h:Ch W N o n a) (hB:Below B W W') (hN:N<B):Ch W' N o n a:=
 ⟨Nat.lt_of_lt_of_le h.1 hB.size,fun t ht=>(hB.cell (p:=⟨N,o+t,none⟩) hN).trans (h.2 t ht)⟩
theorem Ch.be {W W':World} {N o n a:Nat} (h:Ch W N o n a) (hB:Below W.heap.size W W'):Ch W' N o n a:=h.below hB h.1
theorem Ch.drew {W:World} {N o n a:Nat} (h:Ch W N o n a) (k:Nat):Ch (W.drewN k) N o n a:=⟨h.1,h.2⟩
theorem Ch.row {W:World} {N n a:Nat} {l:List Nat} {T:TypeId} (r:Row W N (vI l) T) (hl:n=l.length) (h:∀ t,t<n->l.getD t 0=ht a (n-1-t)):Ch W N 0 n a:=
 ⟨Row.lt r,fun t ht=>by rw[Nat.zero_add,r.cell t _ (zfH l t (by omega)),h t ht]⟩
theorem Ch.set_other {W:World} {N o n a:Nat} (h:Ch W N o n a) (M j:Nat) (v:Value) (hne:N≠M):Ch (W.setCell ⟨M,j,none⟩ v) N o n a:=
 ⟨by rw[World.size_setCell];exact h.1,fun i hi=>by rw[World.cell?_setCell_other _ _ _ _ (by intro e;simp at e)];exact h.2 i hi⟩
theorem Ch.on {W:World} {N o n a k:Nat} (h:Ch W N o (k+n) a):Ch W N (o+k) n (a % 256 ^ n):=by
 refine⟨h.1,fun t ht'=>?_⟩
 have h2:=h.2 (k+t) (by omega)
 rw[show o+k+t=o+(k+t) by omega,h2,show k+n-1-(k+t)=n-1-t by omega]
 have e:ht (a % 256 ^ n) (n-1-t)=ht a (n-1-t):=by
  refine zmR _ _ _ ?_
  exact Nat.mod_mod_of_dvd _ (Nat.pow_dvd_pow _ (by omega))
 rw[e]
theorem Ch.at0 {W:World} {N n a:Nat} (h:Ch W N 0 n a) (t:Nat) (ht':t<n):W.cell? ⟨N,t,none⟩=some (.int .i64 ((ht a (n-1-t):Nat):Int)):=by
 have:=h.2 t ht'
 rw[Nat.zero_add] at this
 exact this
theorem zxK (a:Nat) (w:World) :
 Calls Tryz.prog 31 #[.agg (vQ (dgs a 4)).toArray] w fun e w'=>∃ N,e=.returned (.slice (some ⟨N,0,none⟩) 32 32)/\w.heap.size<=N/\Ch w' N 0 32 a/\Below w.heap.size w w':=by
 go_enter Tryz.func31,Tryz.ntmps31
 go_wp2_with (refine zbM rfl 52 (.const (.int .i64 32)) (.const (.int .i64 32)) rfl 3 32 _ _ rfl rfl rfl rfl (by decide) Tryz.underlying52 zbN ?_;simp only[Act.put,jA,jB,jC])
 go_loopw [4] (fun v wr=>∃ t:Nat,t<=32/\v=.int .i64 (t:Int)/\Below w.heap.size w wr/\Row wr w.heap.size (vQ (dgs a 4)) 27/\Row wr (w.heap.size+1) (vI (hts a 32 t++List.replicate (32-t) 0)) 3) (fun v _=>32-(intOf v).toNat)
 case atStart=>
  refine⟨0,by omega,rfl,((Below.refl _ _).alloc (Nat.le_refl _) _).alloc (by simp) _,?_,?_⟩
  ·exact (Row.new' rfl rfl).alloc _
  ·rw[show hts a 32 0=[] from rfl,List.nil_append,Nat.sub_zero]
   exact Row.new' (by simp) rfl
 case round=>
  obtain⟨t,ht',rfl,hb,h1,h3⟩:=hrel
  by_cases hlt:t<32
  ·obtain⟨p,hp⟩:∃ p,p=31-t:=⟨_,rfl⟩
   have hq:p / 8<4:=by omega
   have g1:=h1.cell (p / 8) _ (zbW _ (p / 8) (by rw[zaH];exact hq))
   rw[zbP _ _ _ hq] at g1
   have g3:=h3.cell t _ (zfH _ t (by rw[List.length_append,zcX,List.length_replicate];omega))
   have gf:=h3.thaw t
   have hbt:=ht_lim a p
   have hx:=zbQ a (p / 8)
   have HS:Hid ((hts a 32 t++List.replicate (32-t) 0).set t (ht a p)=hts a 32 (t+1)++List.replicate (32-(t+1)) 0):=by
    show _=_
    rw[zyF,show 32-1-t=p by omega,fill _ t 32 _ (zcX _ _ _) hlt]
   obtain⟨q1,hq1⟩:∃ q,q=t / 8:=⟨_,rfl⟩
   obtain⟨q2,hq2⟩:∃ q,q=p / 8:=⟨_,rfl⟩
   obtain⟨r1,hr1⟩:∃ r,r=t % 8:=⟨_,rfl⟩
   obtain⟨r2,hr2⟩:∃ r,r=8*r1:=⟨_,rfl⟩
   obtain⟨r,hre⟩:∃ r,r=p % 8*8:=⟨_,rfl⟩
   have e1:(t:Int) / 8=(q1:Int):=by omega
   have e2:(3:Int)-(q1:Int)=(q2:Int):=by omega
   have e3:(t:Int) % 8=(r1:Int):=by omega
   have e4:8*(r1:Int)=(r2:Int):=by omega
   have e5:(56:Int)-(r2:Int)=(r:Int):=by omega
   have lr:(r:Int)<=56:=by omega
   have lr':r<64:=by omega
   have lq:(q2:Int)<4:=by omega
   rw[<-hq2] at g1 hbt hx hq
   rw[<-hre] at hbt
   generalize (hts a 32 t++List.replicate (32-t) 0).getD t 0=z at g3
   generalize lim a q2=x at *
   have eK:(x:Int) / 2 ^ r=((x / 2 ^ r:Nat):Int):=by simp
   have hy64:x / 2 ^ r<18446744073709551616:=Nat.lt_of_le_of_lt (Nat.div_le_self _ _) hx
   obtain⟨y,hy⟩:∃ y,y=x / 2 ^ r:=⟨_,rfl⟩
   rw[<-hy] at eK hbt hy64
   obtain⟨d,hd⟩:∃ d,d=ht a p:=⟨_,rfl⟩
   have hd2:=zdH a p
   rw[<-hd] at hbt hd2 HS
   have eA:bits .and .u64 (y:Int) 255=(d:Int):=by
    rw[show (255:Int)=((2 ^ 8-1:Nat):Int) by rfl,bits_and_u64_nat _ _ hy64 (by decide),Nat.and_two_pow_sub_one_eq_mod,<-hbt]
   have eC:IntKind.i64.wrap (d:Int)=(d:Int):=by rw[IntKind.wrap_i64];omega
   have hdi:(d:Int)<256:=by omega
   have hF:=h3.set t (.int .i64 (d:Int))
   rw[zmC,HS.out] at hF
   have HF:Hid _:=hF
   clear hF hq1 hq2 hr1 hr2 hre hy hd hbt hx hy64 hd2 ht' hp h3 HS
   go_wp2
   exact⟨⟨t+1,hlt,by go_num,Below.setCell hb (by simp) _,h1.set_other _ _ _ (by omega),HF.out⟩,by simp [intOf];omega⟩
  ·have et:t=32:=by omega
   have e4:(t:Int)=32:=by omega
   rw[et] at h3
   rw[e4]
   have HC:Hid (Ch wr (w.heap.size+1) 0 32 a):=by
    have h3':Row wr (w.heap.size+1) (vI (hts a 32 32)) 3:=by simpa using h3
    exact Ch.row h3' (by rw[zcX]) (fun j hj=>zjX _ _ _ _ hj)
   clear et e4 ht' hlt h3
   go_wp2
   go_ret
   exact⟨w.heap.size+1,by simp,by omega,HC.out,hb⟩
theorem zyX (a N o n c:Nat) (hn:n<=32) (ha:a<256 ^ n) (w:World) (h:Ch w N o n a\/n=0) :
 Calls Tryz.prog 15 #[.slice (some ⟨N,o,none⟩) n c] w fun e w'=>e=.returned (.agg (vQ (dgs a 4)).toArray)/\Below w.heap.size w w':=by
 have HH:Hid (∀ t,t<n->w.cell? ⟨N,o+t,none⟩=some (.int .i64 ((ht a (n-1-t):Nat):Int))/\N<w.heap.size):=fun t ht'=>by
  rcases h with h|h
  ·exact⟨h.2 t ht',h.1⟩
  ·omega
 have HA:Hid (a<2 ^ 256):=by
  show a<2 ^ 256
  rw[<-p32]
  exact Nat.lt_of_lt_of_le ha (Nat.pow_le_pow_right (by decide) hn)
 have HT:Hid (hiG a n=0):=hiG_top a n ha
 clear h ha
 have hn':(n:Int)<=32:=by omega
 go_enter Tryz.func15,Tryz.ntmps15
 go_wp2
 go_loopw [4,5] (fun v _ wr=>∃ t:Nat,t<=n/\v=.int .i64 (t:Int)/\Below w.heap.size w wr/\Row wr w.heap.size (vQ (dgs 0 4)) 27/\Row wr (w.heap.size+1) (vQ (dgs (hiG a (n-t)) 4)) 27) (fun v _ _=>n-(intOf v).toNat)
 case atStart=>
  refine⟨0,by omega,rfl,((Below.refl _ _).alloc (Nat.le_refl _) _).alloc (by simp) _,?_,?_⟩
  ·exact (Row.new' rfl (by rw[zcP];rfl)).alloc _
  ·rw[Nat.sub_zero,HT.out]
   exact Row.new' (by simp) rfl
 case round=>
  obtain⟨t,ht',rfl,hb1,n2,n4⟩:=hrel
  by_cases hlt:t<n
  ·obtain⟨k,hk⟩:∃ k,k=n-1-t:=⟨_,rfl⟩
   have ek:n-t=k+1:=by omega
   have ek2:n-(t+1)=k:=by omega
   have hk32:k<32:=by omega
   rw[ek] at n4
   have hq:k / 8<4:=by omega
   have g4:=n4.cell (k / 8) _ (zbW _ (k / 8) (by rw[zaH];exact hq))
   rw[zbP _ _ _ hq] at g4
   have gf:=n4.thaw (k / 8)
   obtain⟨gl,hN⟩:=HH.out t hlt
   rw[<-hk] at gl
   have gl:wr.cell? ⟨N,o+t,none⟩=some (.int .i64 ((ht a k:Nat):Int)):=(hb1.cell (p:=⟨N,o+t,none⟩) hN).trans gl
   obtain⟨hor,p2,p3⟩:=put_hiG a k hk32 HA.out
   have HP:Hid _:=p2
   have hx:=zbQ (hiG a (k+1)) (k / 8)
   have hd:=zdH a k
   obtain⟨d,hd0⟩:∃ d,d=ht a k:=⟨_,rfl⟩
   rw[<-hd0] at gl hor p3 HP hd
   clear p2 hd0
   obtain⟨x,hx0⟩:∃ x,x=lim (hiG a (k+1)) (k / 8):=⟨_,rfl⟩
   rw[<-hx0] at g4 hor HP hx
   clear hx0
   obtain⟨q,hqe⟩:∃ q,q=k / 8:=⟨_,rfl⟩
   obtain⟨r0,hr0⟩:∃ r0,r0=k % 8:=⟨_,rfl⟩
   obtain⟨r,hre⟩:∃ r,r=r0*8:=⟨_,rfl⟩
   have e0:(n:Int)-1-(t:Int)=(k:Int):=by omega
   have e1:(k:Int) / 8=(q:Int):=by omega
   have e2:(k:Int) % 8=(r0:Int):=by omega
   have e3:8*(r0:Int)=(r:Int):=by omega
   rw[<-hqe] at g4 gf hq HP
   rw[<-hr0] at hor p3 HP
   rw[<-hre] at hor p3 HP
   have lr:(r:Int)<=56:=by omega
   have lr':r<64:=by omega
   have lq:(q:Int)<4:=by omega
   have lk:(k:Int)<=31:=by omega
   have htn:(t:Int)<(n:Int):=by omega
   have eB:IntKind.u64.wrap ((d:Int)*2 ^ r)=((d*2 ^ r:Nat):Int):=by rw[zeV,Nat.mod_eq_of_lt p3]
   obtain⟨y,hy⟩:∃ y,y=d*2 ^ r:=⟨_,rfl⟩
   rw[<-hy] at eB hor p3 HP
   have eO:bits .or .u64 (x:Int) (y:Int)=((x+y:Nat):Int):=by rw[bits_or_u64_nat _ _ hx p3,hor]
   obtain⟨z,hz⟩:∃ z,z=x+y:=⟨_,rfl⟩
   rw[<-hz] at eO HP
   have eC:IntKind.u64.wrap (d:Int)=(d:Int):=by rw[IntKind.wrap_u64];omega
   have hdi:(d:Int)<256:=by omega
   have hF:=n4.set q (.int .u64 (z:Int))
   rw[zeY,HP.out,<-ek2] at hF
   have HF:Hid _:=hF
   clear hF hqe hre hr0 hy hz hor hx p3 hd ht' n4 HP ek ek2 hk hN
   go_wp2
   go_region
   go_wp2
   exact⟨⟨t+1,hlt,by go_num,Below.drew (Below.setCell hb1 (by simp) _),Row.drew (n2.set_other _ _ _ (by omega)),Row.drew HF.out⟩,by simp [intOf];omega⟩
  ·have et:t=n:=by omega
   rw[et,Nat.sub_self,zyE] at n4
   obtain⟨cs,Hc⟩:∃ c,Wc c a:=⟨_,rfl⟩
   rw[<-show cs=vQ (dgs a 4) from Hc] at n4
   have T:=Hc.there n2 rfl
   have fin:=n2.over (vs:=cs) (by rw[Hc.len];rfl)
   have hbf:=zaC hb1 (b:=w.heap.size) (o:=0) (Nat.le_refl _) cs
   have htn:¬ (t:Int)<(n:Int):=by omega
   clear et hlt ht'
   go_wp2_with (first
    |(refine wpList_load_mid rfl 27 (.tmp 3) rfl (w.heap.size+1) 0 rfl cs _ n4.all Tryz.underlying27 rfl Hc.info ?_;simp only[Act.put,jA,jB,jC])
    |(refine wpList_store_mid rfl 27 (.tmp 2) (.tmp 32) rfl w.heap.size 0 cs.toArray rfl rfl T Hc.info' Hc.one ?_;simp only[Act.put]))
   exact bodyPost_ret (zaW Tryz.results15 _ _ w.heap.size 27 cs rfl fin Tryz.underlying27 (by rw[Hc.len];exact zaL)) rfl ⟨by rw[show cs=vQ (dgs a 4) from Hc],hbf⟩
theorem zgF (l:List Nat) (i x j:Nat) (hi:i<l.length):(l.set i x).getD j 0=if j=i then x else l.getD j 0:=by
 by_cases h:j=i
 ·subst h
  rw[if_pos rfl]
  simp [List.getD_eq_getElem?_getD,hi]
 ·rw[if_neg h]
  simp [List.getD_eq_getElem?_getD,List.getElem?_set_ne (Ne.symm h)]
def Rh (W:World) (N n a:Nat):Prop:=∃ l:List Nat,Row W N (vI l) 3/\l.length=n/\∀ t,t<n->l.getD t 0=ht a (n-1-t)
theorem Rh.ch {W:World} {N n a:Nat} (h:Rh W N n a):Ch W N 0 n a:=by
 obtain⟨l,h1,h2,h3⟩:=h
 exact Ch.row h1 h2.symm h3
theorem zbA {B:Nat} {a w:World} (h:Below B a w) (k:Nat):Below B a (w.drewN k):=⟨h.os,h.tape,h.output,h.size,h.block⟩
theorem zdN (w:World) (m k:Nat):(w.drewN m).drewN k=w.drewN (m+k):=by simp [World.drewN,Nat.add_assoc]
theorem zgC (a b n N M c1 c2:Nat) (hn:n<=64) (ha:a<256 ^ n) (hb:b<256 ^ n) (w:World) (r1:Ch w N 0 n a) (r2:Ch w M 0 n b) :
 Calls Tryz.prog 34 #[.slice (some ⟨N,0,none⟩) n c1,.slice (some ⟨M,0,none⟩) n c2] w fun e w'=>e=.returned (.int .i64 (zfN a b))/\∃ k,w'=w.drewN k:=by
 have HA:Hid (a<256 ^ n):=ha
 have HB:Hid (b<256 ^ n):=hb
 have H1:Hid (Ch w N 0 n a):=r1
 have H2:Hid (Ch w M 0 n b):=r2
 have hn':(n:Int)<=64:=by omega
 clear ha hb r1 r2
 go_enter Tryz.func34,Tryz.ntmps34
 go_wp2
 go_loopw [5] (fun v wr=>∃ t k:Nat,t<=n/\v=.int .i64 (t:Int)/\Hid (wr=w.drewN k)/\Hid (a / 256 ^ (n-t)=b / 256 ^ (n-t))) (fun v _=>(n-intOf v).toNat)
 case atStart=>
  refine⟨0,0,Nat.zero_le _,rfl,(World.drewN_zero w).symm,?_⟩
  show a / 256 ^ (n-0)=b / 256 ^ (n-0)
  rw[Nat.sub_zero,Nat.div_eq_of_lt HA.out,Nat.div_eq_of_lt HB.out]
 case round=>
  obtain⟨t,k,ht',rfl,hw,hI⟩:=hrel
  by_cases hlt:t<n
  ·have hlt':(t:Int)<(n:Int):=by omega
   obtain⟨p,hp⟩:∃ p,p=n-1-t:=⟨_,rfl⟩
   have g1:=H1.out.at0 t hlt
   have g2:=H2.out.at0 t hlt
   rw[<-hp] at g1 g2
   replace g1:wr.cell? ⟨N,t,none⟩=some (.int .i64 ((ht a p:Nat):Int)):=by rw[hw.out];exact g1
   replace g2:wr.cell? ⟨M,t,none⟩=some (.int .i64 ((ht b p:Nat):Int)):=by rw[hw.out];exact g2
   have hI':a / 256 ^ (p+1)=b / 256 ^ (p+1):=by have:=hI.out;rwa [show n-t=p+1 by omega] at this
   have HP:Hid (p=n-(t+1)):=by show p=n-(t+1);omega
   have HLT:Hid (ht a p<ht b p->zfN a b=-1):=fun h=>by
    have:=zsX a b p hI' h
    exact (if_neg (by omega)).trans (if_pos this)
   have HGT:Hid (ht b p<ht a p->zfN a b=1):=fun h=>by
    have:=zsX b a p hI'.symm h
    exact (if_neg (by omega)).trans (if_neg (by omega))
   have HEQ:Hid (ht a p=ht b p->a / 256 ^ p=b / 256 ^ p):=fun h=>ht_same a b p hI' h
   generalize ht a p=x at *
   generalize ht b p=y at *
   clear hI hI' hp ht' H1 H2
   rcases Nat.lt_trichotomy x y with h|h|h
   ·have hd:(x:Int)<(y:Int):=by omega
    have hne:¬ (x:Int)=(y:Int):=by omega
    have HR:Hid (zfN a b=-1):=HLT.out h
    clear h
    go_wp2
    go_quiet (fail)
    go_wp2
    go_quiet (fail)
    go_wp2
    go_ret
    exact⟨by rw[HR.out];rfl,_,by rw[hw.out];exact (congrArg (fun x=>World.drewN x _) (zdN _ _ _)).trans (zdN _ _ _)⟩
   ·subst h
    have HR:Hid (a / 256 ^ p=b / 256 ^ p):=HEQ.out rfl
    go_wp2
    go_quiet (fail)
    go_wp2
    exact⟨⟨t+1,_,by omega,by go_num,(congrArg (fun x=>World.drewN x _) hw.out).trans (zdN _ _ _),by rw[<-HP.out];exact HR.out⟩,by simp [intOf];omega⟩
   ·have hd:(y:Int)<(x:Int):=by omega
    have hd2:¬ (x:Int)<(y:Int):=by omega
    have hne:¬ (x:Int)=(y:Int):=by omega
    have HR:Hid (zfN a b=1):=HGT.out h
    clear h
    go_wp2
    go_quiet (fail)
    go_wp2
    go_quiet (fail)
    go_wp2
    go_ret
    exact⟨by rw[HR.out];rfl,_,by rw[hw.out];exact (congrArg (fun x=>World.drewN x _) (zdN _ _ _)).trans (zdN _ _ _)⟩
  ·have et:t=n:=by omega
   have hlt':¬ (t:Int)<(n:Int):=by omega
   have HR:Hid (zfN a b=0):=if_pos (by have:=hI.out;rw[et,Nat.sub_self] at this;simpa using this)
   clear ht' hI hlt et
   go_wp2
   go_ret
   exact⟨by rw[HR.out];rfl,k,hw.out⟩
theorem zpP (a m N c1:Nat) (hm:m<=64) (ha:a<256 ^ (m+32)) (w:World) (r1:Ch w N 0 (m+32) a) :
 Calls Tryz.prog 33 #[.slice (some ⟨N,0,none⟩) (m+32) c1] w fun e w'=>e=.returned (.bool (decide (a<2 ^ 256)))/\w'=w:=by
 have HA:Hid (a<256 ^ (m+32)):=ha
 have H1:Hid (Ch w N 0 (m+32) a):=r1
 obtain⟨n,hn⟩:∃ n,n=m+32:=⟨_,rfl⟩
 rw[<-hn] at HA H1 ⊢
 have hn':(n:Int)-32=(m:Int):=by omega
 have hnb:(n:Int)<=96:=by omega
 have HN:Hid (n=m+32):=hn
 obtain⟨B,hB⟩:∃ B,B=decide (a<2 ^ 256):=⟨_,rfl⟩
 have HB:Hid (B=decide (a<2 ^ 256)):=hB
 rw[<-hB]
 clear ha r1 hn hB hm
 go_enter Tryz.func33,Tryz.ntmps33
 go_wp2
 go_loopw [3] (fun v wr=>∃ t:Nat,t<=m/\v=.int .i64 (t:Int)/\wr=w/\Hid (a<256 ^ (n-t))) (fun v _=>(m-intOf v).toNat)
 case atStart=>
  exact⟨0,Nat.zero_le _,rfl,rfl,HA.out⟩
 case round=>
  obtain⟨t,ht',rfl,rfl,hI⟩:=hrel
  by_cases hlt:t<m
  ·have hlt':(t:Int)<(m:Int):=by omega
   have hlt2:(t:Int)<(n:Int):=by omega
   have hN:=HN.out
   have g1:=H1.out.at0 t (by omega)
   obtain⟨p,hp⟩:∃ p,p=n-1-t:=⟨_,rfl⟩
   rw[<-hp] at g1
   have hI':a<256 ^ (p+1):=by have:=hI.out;rwa [show n-t=p+1 by omega] at this
   have e1:=zsY a p hI'
   by_cases hx:ht a p=0
   ·rw[hx] at g1
    have HR:Hid (a<256 ^ (n-(t+1))):=by
     show a<256 ^ (n-(t+1))
     rw[show n-(t+1)=p by omega]
     rw[hx] at e1
     exact (Nat.div_eq_zero_iff_lt (zkX p)).1 e1.symm
    clear hI hI' e1 hx hp hN
    go_wp2
    exact⟨⟨t+1,by omega,by go_num,trivial,HR.out⟩,by simp [intOf];omega⟩
   ·have hB0:B=false:=by
     rw[HB.out]
     refine decide_eq_false (fun h=>hx ?_)
     rw[<-p32] at h
     exact zhY a 32 p h (by omega)
    subst hB0
    generalize ht a p=x at *
    have hx':¬ (x:Int)=0:=by omega
    clear hI hI' e1 hx hp hN
    go_wp2
    go_ret
    exact⟨rfl,rfl⟩
  ·have et:t=m:=by omega
   have hlt':¬ (t:Int)<(m:Int):=by omega
   have hB0:B=true:=by
    rw[HB.out]
    refine decide_eq_true ?_
    rw[<-p32]
    have:=hI.out
    have hN:=HN.out
    rwa [show n-t=32 by omega] at this
   subst hB0
   clear ht' hI hlt et
   go_wp2
   go_ret
   exact⟨rfl,rfl⟩
def Rt (W:World) (N n a t:Nat):Prop:=∃ l:List Nat,Row W N (vI l) 3/\l.length=n/\∀ j,t<=j->j<n->l.getD j 0=ht a (n-1-j)
theorem Rt.put {W:World} {N n a t d:Nat} (h:Rt W N n a (t+1)) (ht':t<n) (hd:d=ht a (n-1-t)):Rt (W.setCell ⟨N,t,none⟩ (.int .i64 (d:Int))) N n a t:=by
 obtain⟨l,h1,h2,h3⟩:=h
 refine⟨l.set t d,?_,by rw[List.length_set,h2],fun j hj hn=>?_⟩
 ·have:=h1.set t (.int .i64 (d:Int))
  rw[zmC] at this
  exact this
 ·rw[zgF _ _ _ _ (by omega)]
  by_cases e:j=t
  ·rw[if_pos e,e,hd]
  ·rw[if_neg e]
   exact h3 j (by omega) hn
theorem Rt.drew {W:World} {N n a t:Nat} (h:Rt W N n a t) (k:Nat):Rt (W.drewN k) N n a t:=by
 obtain⟨l,h1,h2⟩:=h
 exact⟨l,Row.drew h1,h2⟩
theorem Rt.start (W:World) (B n a:Nat) (hB:W.heap.size=B):Rt (W.alloc (.cells (vI (List.replicate n 0)).toArray 3)) B n a n:=
 ⟨_,Row.new' hB.symm rfl,by simp,fun j h1 h2=>by omega⟩
theorem Rt.all {W:World} {N n a:Nat} (h:Rt W N n a 0):Rh W N n a:=by
 obtain⟨l,h1,h2,h3⟩:=h
 exact⟨l,h1,h2,fun t ht'=>h3 t (Nat.zero_le _) ht'⟩
theorem Rt.cell {W:World} {N n a t:Nat} (h:Rt W N n a t) (j:Nat) (hj:j<n):∃ z:Nat,W.cell? ⟨N,j,none⟩=some (.int .i64 (z:Int))/\W.frozen? ⟨N,j,none⟩=false:=by
 obtain⟨l,h1,h2,h3⟩:=h
 exact⟨_,h1.cell j _ (zfH l j (by omega)),h1.thaw j⟩
theorem plus_g (a b n N M c1 c2:Nat) (hn:n<=64) (ha:a<256 ^ n) (hb:b<256 ^ n) (w:World) (r1:Ch w N 0 n a) (r2:Ch w M 0 n b) :
 Calls Tryz.prog 32 #[.slice (some ⟨N,0,none⟩) n c1,.slice (some ⟨M,0,none⟩) n c2] w fun e w'=>∃ R,e=.returned (.slice (some ⟨R,0,none⟩) (n+1) (n+1))/\w.heap.size<=R/\Rh w' R (n+1) (a+b)/\Below w.heap.size w w':=by
 have HA:Hid (a<256 ^ n):=ha
 have HB:Hid (b<256 ^ n):=hb
 have H1:Hid (Ch w N 0 n a):=r1
 have H2:Hid (Ch w M 0 n b):=r2
 have hn':(n:Int)<=64:=by omega
 clear ha hb r1 r2
 obtain⟨m,hm⟩:∃ m,m=n+1:=⟨_,rfl⟩
 have em:(n:Int)+1=(m:Int):=by omega
 have hm2:(m:Int)<=65:=by omega
 have hm3:m<=65:=by omega
 have HM:Hid (m=n+1):=hm
 rw[<-hm]
 clear hm
 go_enter Tryz.func32,Tryz.ntmps32
 go_wp2_with (refine zbM rfl 52 (.tmp 11) (.tmp 11) rfl 3 m _ _ rfl rfl rfl rfl (by omega) Tryz.underlying52 zbN ?_;simp only[Act.put,jA,jB,jC])
 obtain⟨W1,hW1⟩:∃ W,W=w.alloc (Obj.cells (vI (List.replicate m 0)).toArray 3):=⟨_,rfl⟩
 have hS:=Rt.start w w.heap.size m (a+b) rfl
 rw[<-hW1] at hS ⊢
 have hB1:Below w.heap.size w W1:=by rw[hW1];exact (Below.refl _ _).alloc (Nat.le_refl _) _
 have HS:Hid _:=hS
 clear hS hW1
 go_loopw [6,7,8] (fun cv v _ wr=>∃ t:Nat,t<=n/\v=.int .i64 ((t:Int)-1)/\cv=.int .i64 ((cr a b (n-t):Nat):Int)/\Below w.heap.size w wr/\Hid (Rt wr w.heap.size m (a+b) (t+1))) (fun _ v _ _=>(intOf v+1).toNat)
 case atStart=>
  exact⟨n,Nat.le_refl _,rfl,by rw[Nat.sub_self,cr_zero];rfl,hB1,by rw[<-HM.out];exact HS.out⟩
 case round=>
  obtain⟨t,ht',rfl,rfl,hb,hR⟩:=hrel
  by_cases h0:0<t
  ·obtain⟨i,rfl⟩:∃ i,t=i+1:=⟨t-1,by omega⟩
   have ei:(((i+1:Nat):Int)-1)=(i:Int):=by omega
   rw[ei]
   have g1:=(H1.out.be hb).at0 i (by omega)
   have g2:=(H2.out.be hb).at0 i (by omega)
   obtain⟨p,hp⟩:∃ p,p=n-1-i:=⟨_,rfl⟩
   have hst:=cr_step a b p
   have x1:=zdH a p
   have x2:=zdH b p
   have y1:=cr_le a b p
   have y2:=cr_le a b (p+1)
   rw[<-hp] at g1 g2
   rw[show n-(i+1)=p by omega]
   have hin:i<n:=by omega
   have hin':(i:Int)<(n:Int):=by omega
   have hM:=HM.out
   obtain⟨z,g3,gf⟩:=hR.out.cell (i+1) (by omega)
   have HD:Hid (ht (a+b) p=ht (a+b) (m-1-(i+1))):=by rw[show m-1-(i+1)=p by omega];rfl
   have HC1:Hid (cr a b (n-i)=cr a b (p+1)):=by rw[show n-i=p+1 by omega];rfl
   generalize ht a p=x at *
   generalize ht b p=y at *
   obtain⟨B1,hB1⟩:∃ B1,B1=cr a b (p+1):=⟨_,rfl⟩
   obtain⟨B0,hB0⟩:∃ B0,B0=cr a b p:=⟨_,rfl⟩
   obtain⟨D,hD⟩:∃ D,D=ht (a+b) p:=⟨_,rfl⟩
   have x3:=zdH (a+b) p
   rw[<-hD,<-hB0,<-hB1] at hst
   rw[<-hD] at x3 HD
   rw[<-hB0] at y1 ⊢
   rw[<-hB1] at y2 HC1
   obtain⟨s1,hs1⟩:∃ s1,s1=x+y:=⟨_,rfl⟩
   obtain⟨s2,hs2⟩:∃ s2,s2=s1+B0:=⟨_,rfl⟩
   have e1:(x:Int)+(y:Int)=(s1:Int):=by omega
   have e2:(s1:Int)+(B0:Int)=(s2:Int):=by omega
   have e3:(s2:Int) % 256=(D:Int):=by omega
   have e4:(s2:Int) / 256=(B1:Int):=by omega
   have l1:(s1:Int)<=512:=by omega
   have l2:(s2:Int)<=513:=by omega
   have hi1:(i:Int)+1<(m:Int):=by omega
   have hi2:(0:Int)<=(i:Int):=by omega
   clear hst x1 x2 x3 y1 y2 hs1 hs2 hp hD hB0 hB1 h0 ei hM
   go_wp2
   go_quiet (fail)
   go_wp2
   exact⟨⟨i,by omega,rfl,by rw[HC1.out] <;> rfl,Below.setCell (zbA hb _) (by simp) _,(Rt.put (Rt.drew hR.out _) (by have:=HM.out;omega) HD.out)⟩,by simp [intOf]⟩
  ·have et:t=0:=by omega
   subst et
   have HT:Hid (cr a b n=ht (a+b) (m-1-0)):=by
    rw[show m-1-0=n by have:=HM.out;omega]
    exact cr_top a b n HA.out HB.out
   obtain⟨z,g3,gf⟩:=hR.out.cell 0 (by have:=HM.out;omega)
   rw[Nat.sub_zero]
   generalize cr a b n=D at *
   have hm0:(0:Int)<(m:Int):=by have:=HM.out;omega
   clear h0 ht'
   go_wp2
   go_ret
   exact⟨w.heap.size,rfl,Nat.le_refl _,(Rt.put (t:=0) hR.out (by have:=HM.out;omega) HT.out).all,Below.setCell hb (by simp) _⟩
theorem less_g (a b n N M c1 c2:Nat) (hn:n<=64) (hba:b<=a) (w:World) (r1:Ch w N 0 n a) (r2:Ch w M 0 n b) :
 Calls Tryz.prog 35 #[.slice (some ⟨N,0,none⟩) n c1,.slice (some ⟨M,0,none⟩) n c2] w fun e w'=>∃ R,e=.returned (.slice (some ⟨R,0,none⟩) n n)/\w.heap.size<=R/\Rh w' R n (a-b)/\Below w.heap.size w w':=by
 have HBA:Hid (b<=a):=hba
 have H1:Hid (Ch w N 0 n a):=r1
 have H2:Hid (Ch w M 0 n b):=r2
 have hn':(n:Int)<=64:=by omega
 clear hba r1 r2
 go_enter Tryz.func35,Tryz.ntmps35
 go_wp2_with (refine zbM rfl 52 (.tmp 10) (.tmp 10) rfl 3 n _ _ rfl rfl rfl rfl (by omega) Tryz.underlying52 zbN ?_;simp only[Act.put,jA,jB,jC])
 obtain⟨W1,hW1⟩:∃ W,W=w.alloc (Obj.cells (vI (List.replicate n 0)).toArray 3):=⟨_,rfl⟩
 have hS:=Rt.start w w.heap.size n (a-b) rfl
 rw[<-hW1] at hS ⊢
 have hB1:Below w.heap.size w W1:=by rw[hW1];exact (Below.refl _ _).alloc (Nat.le_refl _) _
 have HS:Hid _:=hS
 clear hS hW1
 go_loopw [6,7,8] (fun cv v _ wr=>∃ t:Nat,t<=n/\v=.int .i64 ((t:Int)-1)/\cv=.int .i64 ((bw a b (n-t):Nat):Int)/\Below w.heap.size w wr/\Hid (Rt wr w.heap.size n (a-b) t)) (fun _ v _ _=>(intOf v+1).toNat)
 case atStart=>
  exact⟨n,Nat.le_refl _,rfl,by rw[Nat.sub_self,bw_zero];rfl,hB1,HS.out⟩
 case round=>
  obtain⟨t,ht',rfl,rfl,hb,hR⟩:=hrel
  by_cases h0:0<t
  ·obtain⟨i,rfl⟩:∃ i,t=i+1:=⟨t-1,by omega⟩
   have ei:(((i+1:Nat):Int)-1)=(i:Int):=by omega
   rw[ei]
   have g1:=(H1.out.be hb).at0 i (by omega)
   have g2:=(H2.out.be hb).at0 i (by omega)
   obtain⟨p,hp⟩:∃ p,p=n-1-i:=⟨_,rfl⟩
   have hst:=bw_step a b p HBA.out
   have x1:=zdH a p
   have x2:=zdH b p
   have y1:=zwG a b p
   have y2:=zwG a b (p+1)
   rw[<-hp] at g1 g2
   rw[show n-(i+1)=p by omega]
   have hin:i<n:=by omega
   have hin':(i:Int)<(n:Int):=by omega
   obtain⟨z,g3,gf⟩:=hR.out.cell i (by omega)
   have HD:Hid (ht (a-b) p=ht (a-b) (n-1-i)):=by rw[<-hp];rfl
   have HC1:Hid (bw a b (n-i)=bw a b (p+1)):=by rw[show n-i=p+1 by omega];rfl
   generalize ht a p=x at *
   generalize ht b p=y at *
   obtain⟨B1,hB1⟩:∃ B1,B1=bw a b (p+1):=⟨_,rfl⟩
   obtain⟨B0,hB0⟩:∃ B0,B0=bw a b p:=⟨_,rfl⟩
   obtain⟨D,hD⟩:∃ D,D=ht (a-b) p:=⟨_,rfl⟩
   have x3:=zdH (a-b) p
   rw[<-hD,<-hB0,<-hB1] at hst
   rw[<-hD] at x3 HD
   rw[<-hB0] at y1 ⊢
   rw[<-hB1] at y2 HC1
   obtain⟨s1,hs1⟩:∃ s1:Int,s1=(x:Int)-(y:Int):=⟨_,rfl⟩
   obtain⟨s2,hs2⟩:∃ s2:Int,s2=s1-(B0:Int):=⟨_,rfl⟩
   have e1:(x:Int)-(y:Int)=s1:=by omega
   have e2:s1-(B0:Int)=s2:=by omega
   have l1:s1<=256:=by omega
   have l2:s2<=256:=by omega
   have l3:-256<=s1:=by omega
   have l4:-257<=s2:=by omega
   have hi2:(0:Int)<=(i:Int):=by omega
   by_cases hneg:s2<0
   ·have e3:s2+256=(D:Int):=by omega
    obtain rfl:B1=1:=by omega
    clear hst x1 x2 x3 y1 y2 hs1 hs2 hp hD hB0 hB1 h0 ei
    go_wp2
    go_quiet (fail)
    go_wp2
    exact⟨⟨i,by omega,rfl,by rw[HC1.out] <;> rfl,Below.setCell (zbA hb _) (by simp) _,(Rt.put (Rt.drew hR.out _) hin HD.out)⟩,by simp [intOf]⟩
   ·obtain rfl:s2=(D:Int):=by omega
    obtain rfl:B1=0:=by omega
    clear hst x1 x2 x3 y1 y2 hs1 hs2 hp hD hB0 hB1 h0 ei
    go_wp2
    go_quiet (fail)
    go_wp2
    exact⟨⟨i,by omega,rfl,by rw[HC1.out] <;> rfl,Below.setCell (zbA hb _) (by simp) _,(Rt.put (Rt.drew hR.out _) hin HD.out)⟩,by simp [intOf]⟩
  ·have et:t=0:=by omega
   subst et
   clear h0 ht'
   go_wp2
   go_ret
   exact⟨w.heap.size,rfl,Nat.le_refl _,hR.out.all,hb⟩
def R64 (W:World) (N:Nat) (f:Nat->Nat):Prop:=∃ l:List Nat,Row W N (vI l) 3/\l.length=64/\∀ j,j<64->l.getD j 0=f j
theorem R64.put {W:World} {N:Nat} {f g:Nat->Nat} {t d:Nat} (h:R64 W N f) (ht':t<64) (hd:d=g t) (hg:∀ j,j<64->j≠t->g j=f j):R64 (W.setCell ⟨N,t,none⟩ (.int .i64 (d:Int))) N g:=by
 obtain⟨l,h1,h2,h3⟩:=h
 refine⟨l.set t d,?_,by rw[List.length_set,h2],fun j hj=>?_⟩
 ·have:=h1.set t (.int .i64 (d:Int))
  rw[zmC] at this
  exact this
 ·rw[zgF _ _ _ _ (by omega)]
  by_cases e:j=t
  ·rw[if_pos e,e,hd]
  ·rw[if_neg e,hg j hj e]
   exact h3 j hj
theorem R64.drew {W:World} {N:Nat} {f:Nat->Nat} (h:R64 W N f) (k:Nat):R64 (W.drewN k) N f:=by
 obtain⟨l,h1,h2⟩:=h
 exact⟨l,Row.drew h1,h2⟩
theorem R64.cell {W:World} {N:Nat} {f:Nat->Nat} (h:R64 W N f) (j:Nat) (hj:j<64):W.cell? ⟨N,j,none⟩=some (.int .i64 ((f j:Nat):Int))/\W.frozen? ⟨N,j,none⟩=false:=by
 obtain⟨l,h1,h2,h3⟩:=h
 have:=h1.cell j _ (zfH l j (by omega))
 rw[h3 j hj] at this
 exact⟨this,h1.thaw j⟩
theorem R64.congr {W:World} {N:Nat} {f g:Nat->Nat} (h:R64 W N f) (hg:∀ j,j<64->g j=f j):R64 W N g:=by
 obtain⟨l,h1,h2,h3⟩:=h
 exact⟨l,h1,h2,fun j hj=>(h3 j hj).trans (hg j hj).symm⟩
def tmf (P F q j:Nat):Nat:=if q<j then ht F (63-j) else ht P (63-j)
theorem times_g (a b N M c1 c2:Nat) (ha:a<256 ^ 32) (hb:b<256 ^ 32) (w:World) (r1:Ch w N 0 32 a) (r2:Ch w M 0 32 b) :
 Calls Tryz.prog 36 #[.slice (some ⟨N,0,none⟩) 32 c1,.slice (some ⟨M,0,none⟩) 32 c2] w fun e w'=>∃ R,e=.returned (.slice (some ⟨R,0,none⟩) 64 64)/\w.heap.size<=R/\Rh w' R 64 (a*b)/\Below w.heap.size w w':=by
 have HA:Hid (a<256 ^ 32):=ha
 have HB:Hid (b<256 ^ 32):=hb
 have H1:Hid (Ch w N 0 32 a):=r1
 have H2:Hid (Ch w M 0 32 b):=r2
 clear ha hb r1 r2
 go_enter Tryz.func36,Tryz.ntmps36
 go_wp2_with (refine zbM rfl 52 (.const (.int .i64 64)) (.const (.int .i64 64)) rfl 3 64 _ _ rfl rfl rfl rfl (by omega) Tryz.underlying52 zbN ?_;simp only[Act.put,jA,jB,jC])
 obtain⟨W1,hW1⟩:∃ W,W=w.alloc (Obj.cells (vI (List.replicate 64 0)).toArray 3):=⟨_,rfl⟩
 have hS:R64 W1 w.heap.size (fun j=>ht (a % 256 ^ 0*b) (63-j)):=by
  rw[hW1]
  refine⟨_,Row.new' rfl rfl,by simp,fun j hj=>?_⟩
  show _=ht (a % 256 ^ 0*b) (63-j)
  rw[Nat.pow_zero,Nat.mod_one,Nat.zero_mul,show ht 0 (63-j)=0 by simp [ht],List.getD_eq_getElem?_getD,List.getElem?_replicate]
  split <;> rfl
 rw[<-hW1]
 have hB1:Below w.heap.size w W1:=by rw[hW1];exact (Below.refl _ _).alloc (Nat.le_refl _) _
 have HS:Hid _:=hS
 clear hS hW1
 go_loopw [6,7,8,9] (fun v _ _ _ wr=>∃ t:Nat,t<=32/\v=.int .i64 ((t:Int)-1)/\Below w.heap.size w wr/\Hid (R64 wr w.heap.size (fun j=>ht (a % 256 ^ (32-t)*b) (63-j)))) (fun v _ _ _ _=>(intOf v+1).toNat)
 case atStart=>
  exact⟨32,Nat.le_refl _,rfl,hB1,HS.out⟩
 case round=>
  obtain⟨t,ht',rfl,hb,hR⟩:=hrel
  by_cases h0:0<t
  ·obtain⟨i,rfl⟩:∃ i,t=i+1:=⟨t-1,by omega⟩
   have ei:(((i+1:Nat):Int)-1)=(i:Int):=by omega
   rw[ei]
   obtain⟨s,hs⟩:∃ s,s=31-i:=⟨_,rfl⟩
   obtain⟨P,hP⟩:∃ P,P=a % 256 ^ s*b:=⟨_,rfl⟩
   obtain⟨X,hX⟩:∃ X,X=ht a s:=⟨_,rfl⟩
   obtain⟨F,hF⟩:∃ F,F=P+X*256 ^ s*b:=⟨_,rfl⟩
   have HF:Hid (F=a % 256 ^ (s+1)*b):=by
    show F=_
    rw[hF,hP,hX]
    exact tm_next a b s
   have HPs:Hid (P<256 ^ (s+32)):=by show P<_;rw[hP];exact yaA a b s HB.out
   have hX2:X<256:=by rw[hX];exact zdH _ _
   have HFd:Hid (F=P+X*256 ^ s*b):=hF
   have hR2:R64 wr w.heap.size (tmf P F (i+32)):=by
    refine hR.out.congr (fun j hj=>?_)
    unfold tmf
    rw[show 32-(i+1)=s by omega,<-hP]
    by_cases hq:i+32<j
    ·rw[if_pos hq]
     refine zmR _ _ _ ?_
     rw[hF]
     have e:256 ^ s=256 ^ (63-j+1)*256 ^ (s-(63-j+1)):=by rw[<-Nat.pow_add,show 63-j+1+(s-(63-j+1))=s by omega]
     rw[e,show P+X*(256 ^ (63-j+1)*256 ^ (s-(63-j+1)))*b=P+256 ^ (63-j+1)*(X*256 ^ (s-(63-j+1))*b) by grind,Nat.add_mul_mod_self_left]
    ·rw[if_neg hq]
   have HR2:Hid _:=hR2
   have g1:=H1.out.at0 i (by omega)
   rw[show 32-1-i=s by omega,<-hX] at g1
   have HG1:Hid (w.cell? ⟨N,i,none⟩=some (.int .i64 (X:Int))):=g1
   have hi32:(i:Int)<32:=by omega
   have hi32':i<32:=by omega
   have HI:Hid (s=31-i):=hs
   have hc0:tm P X s b 0 / 256 ^ (s+0)=0:=tm_zero P X s b
   have HC0:Hid _:=hc0
   clear hR2 g1 hs hX hF hP hc0 hR h0 ht' ei
   go_wp2
   go_loopw [7,8,9] (fun cv v _ wx=>∃ u:Nat,u<=32/\v=.int .i64 ((u:Int)-1)/\cv=.int .i64 ((tm P X s b (32-u) / 256 ^ (s+(32-u)):Nat):Int)/\Below w.heap.size w wx/\Hid (R64 wx w.heap.size (tmf P F (i+u)))) (fun _ v _ _=>(intOf v+1).toNat)
   case atStart=>
    exact⟨32,Nat.le_refl _,rfl,by rw[show 32-32=0 from rfl,HC0.out];rfl,hb,HR2.out⟩
   case round=>
    clear hb HR2 HC0
    obtain⟨u,hu,rfl,rfl,hb,hR⟩:=hrel
    by_cases h0:0<u
    ·obtain⟨k,rfl⟩:∃ k,u=k+1:=⟨u-1,by omega⟩
     have ek:(((k+1:Nat):Int)-1)=(k:Int):=by omega
     rw[ek]
     obtain⟨m,hm⟩:∃ m,m=31-k:=⟨_,rfl⟩
     have hsI:=HI.out
     obtain⟨t1,t2⟩:=tm_step P X s b m
     have t3:=zkO P X s b m hX2
     have t4:=zkO P X s b (m+1) hX2
     have g2:=(H2.out.be hb).at0 k (by omega)
     rw[show 32-1-k=m by omega] at g2
     have g1:wr.cell? ⟨N,i,none⟩=some (.int .i64 (X:Int)):=(hb.cell (p:=⟨N,i,none⟩) H1.out.1).trans HG1.out
     obtain⟨q,hq⟩:∃ q,q=i+k+1:=⟨_,rfl⟩
     obtain⟨g3,gf⟩:=hR.out.cell q (by omega)
     have hz:tmf P F (i+(k+1)) q=ht P (s+m):=by
      unfold tmf
      rw[if_neg (by omega),show 63-q=s+m by omega]
     rw[hz] at g3
     rw[show 32-(k+1)=m by omega]
     rw[<-HFd.out] at t1
     have HD:Hid (ht F (s+m)=tmf P F (i+k) q):=by
      show _=_
      unfold tmf
      rw[if_pos (by omega),show 63-q=s+m by omega]
     have HO:Hid (∀ j,j<64->j≠q->tmf P F (i+k) j=tmf P F (i+(k+1)) j):=fun j hj hne=>by
      unfold tmf
      by_cases hl:i+k<j
      ·rw[if_pos hl,if_pos (by omega)]
      ·rw[if_neg hl,if_neg (by omega)]
     have HC1:Hid (32-k=m+1):=by show 32-k=m+1;omega
     have y1:=zdH b m
     have y2:=zdH P (s+m)
     have y3:=zdH F (s+m)
     obtain⟨D,hD⟩:∃ D,D=ht F (s+m):=⟨_,rfl⟩
     rw[<-hD] at HD t1 y3
     obtain⟨B1,hB1⟩:∃ B1,B1=tm P X s b (m+1) / 256 ^ (s+(m+1)):=⟨_,rfl⟩
     have HB1:Hid (B1=tm P X s b (m+1) / 256 ^ (s+(m+1))):=hB1
     rw[<-hB1] at t2 t4
     generalize tm P X s b m / 256 ^ (s+m)=B0 at *
     generalize ht P (s+m)=x at *
     generalize ht b m=y at *
     have hxy:X*y<=255*255:=Nat.mul_le_mul (by omega) (by omega)
     obtain⟨s0,hs0⟩:∃ s0,s0=X*y:=⟨_,rfl⟩
     rw[<-hs0] at t1 t2 hxy
     obtain⟨s1,hs1⟩:∃ s1,s1=x+s0:=⟨_,rfl⟩
     obtain⟨s2,hs2⟩:∃ s2,s2=s1+B0:=⟨_,rfl⟩
     have e0:(X:Int)*(y:Int)=(s0:Int):=by rw[hs0];exact (Int.natCast_mul X y).symm
     have e1:(x:Int)+(s0:Int)=(s1:Int):=by omega
     have e2:(s1:Int)+(B0:Int)=(s2:Int):=by omega
     have e3:(s2:Int) % 256=(D:Int):=by omega
     have e4:(s2:Int) / 256=(B1:Int):=by omega
     have l0:(s0:Int)<=65025:=by omega
     have l1:(s1:Int)<=65280:=by omega
     have l2:(s2:Int)<=65535:=by omega
     obtain⟨q0,hq0⟩:∃ q0,q0=i+k:=⟨_,rfl⟩
     have e5:(i:Int)+(k:Int)=(q0:Int):=by omega
     have e6:(q0:Int)+1=(q:Int):=by omega
     have lq:(q:Int)<64:=by omega
     have lq0:(q0:Int)<63:=by omega
     have hk:(k:Int)<32:=by omega
     have lX:(X:Int)<256:=by omega
     have ly:(y:Int)<256:=by omega
     have hq64:q<64:=by omega
     clear t1 t2 t3 t4 hm hsI hz hD hB1 hs0 hs1 hs2 hq0 hxy y1 y2 y3 h0 hu hq ek
     go_wp2
     go_quiet (fail)
     go_wp2
     exact⟨⟨k,by omega,rfl,by rw[HC1.out,<-HB1.out] <;> rfl,Below.setCell (zbA hb _) (by simp) _,R64.put (R64.drew hR.out _) hq64 HD.out HO.out⟩,by simp [intOf]⟩
    ·have eu:u=0:=by omega
     subst eu
     obtain⟨q1,q2⟩:=tm_end P X s b HPs.out HB.out hX2
     rw[<-HFd.out] at q1 q2
     have hsI:=HI.out
     obtain⟨g3,gf⟩:=hR.out.cell i (by omega)
     have hz:tmf P F (i+0) i=0:=by
      unfold tmf
      rw[if_neg (by omega)]
      exact zhY P (s+32) _ HPs.out (by omega)
     rw[hz] at g3
     rw[show 32-0=32 from rfl,q1]
     have HD:Hid (ht F (s+32)=ht (a % 256 ^ (32-i)*b) (63-i)):=by
      show _=_
      rw[show 32-i=s+1 by omega,<-HF.out,show 63-i=s+32 by omega]
     have HO:Hid (∀ j,j<64->j≠i->ht (a % 256 ^ (32-i)*b) (63-j)=tmf P F (i+0) j):=fun j hj hne=>by
      rw[show 32-i=s+1 by omega,<-HF.out]
      unfold tmf
      by_cases hl:i+0<j
      ·rw[if_pos hl]
      ·rw[if_neg hl,zhY P (s+32) _ HPs.out (by omega),zhY F (s+32+1) _ q2 (by omega)]
     have yD:=zdH F (s+32)
     generalize ht F (s+32)=D at *
     have hDi:(D:Int)<256:=by omega
     have e1:(0:Int)+(D:Int)=(D:Int):=by omega
     clear q1 q2 hsI hz h0 hu yD
     go_wp2
     exact⟨⟨i,by omega,rfl,Below.setCell hb (by simp) _,R64.put hR.out (by omega) HD.out HO.out⟩,by simp [intOf]⟩
  ·have et:t=0:=by omega
   subst et
   have HX:Hid (R64 wr w.heap.size (fun j=>ht (a*b) (64-1-j))):=by
    refine hR.out.congr (fun j _=>?_)
    rw[Nat.sub_zero,Nat.mod_eq_of_lt HA.out]
   clear h0 ht' hR
   go_wp2
   go_ret
   obtain⟨l,h1,h2,h3⟩:=HX.out
   exact⟨w.heap.size,rfl,Nat.le_refl _,⟨l,h1,h2,h3⟩,hb⟩
def Rf (W:World) (N n:Nat) (f:Nat->Nat):Prop:=∃ l:List Nat,Row W N (vI l) 3/\l.length=n/\∀ j,j<n->l.getD j 0=f j
section
variable {W W':World} {N n:Nat} {f g:Nat->Nat}
theorem Rf.put {t d:Nat} (h:Rf W N n f) (ht':t<n) (hd:d=g t) (hg:∀ j,j<n->j≠t->g j=f j):Rf (W.setCell ⟨N,t,none⟩ (.int .i64 (d:Int))) N n g:=by
 obtain⟨l,h1,h2,h3⟩:=h
 refine⟨l.set t d,?_,by rw[List.length_set,h2],fun j hj=>?_⟩
 ·have:=h1.set t (.int .i64 (d:Int))
  rw[zmC] at this
  exact this
 ·rw[zgF _ _ _ _ (by omega)]
  by_cases e:j=t
  ·rw[if_pos e,e,hd]
  ·rw[if_neg e,hg j hj e]
   exact h3 j hj
theorem Rf.lt (h:Rf W N n f):N<W.heap.size:=by
 obtain⟨l,h1,h2⟩:=h
 exact Row.lt h1
theorem Rf.drew (h:Rf W N n f) (k:Nat):Rf (W.drewN k) N n f:=by
 obtain⟨l,h1,h2⟩:=h
 exact⟨l,Row.drew h1,h2⟩
theorem Rf.be (h:Rf W N n f) (hB:Below W.heap.size W W'):Rf W' N n f:=by
 obtain⟨l,h1,h2⟩:=h
 exact⟨l,h1.below hB (Row.lt h1),h2⟩
theorem Rf.other (h:Rf W N n f) {M t:Nat} {v:Value} (hne:N≠M):Rf (W.setCell ⟨M,t,none⟩ v) N n f:=by
 obtain⟨l,h1,h2⟩:=h
 exact⟨l,h1.set_other _ _ _ hne,h2⟩
theorem Rf.cell (h:Rf W N n f) (j:Nat) (hj:j<n):W.cell? ⟨N,j,none⟩=some (.int .i64 ((f j:Nat):Int))/\W.frozen? ⟨N,j,none⟩=false:=by
 obtain⟨l,h1,h2,h3⟩:=h
 have:=h1.cell j _ (zfH l j (by omega))
 rw[h3 j hj] at this
 exact⟨this,h1.thaw j⟩
theorem Rf.congr (h:Rf W N n f) (hg:∀ j,j<n->g j=f j):Rf W N n g:=by
 obtain⟨l,h1,h2,h3⟩:=h
 exact⟨l,h1,h2,fun j hj=>(h3 j hj).trans (hg j hj).symm⟩
theorem Rf.start (B n:Nat) (hB:W.heap.size=B):Rf (W.alloc (.cells (vI (List.replicate n 0)).toArray 3)) B n (fun _=>0):=
 ⟨_,Row.new' hB.symm rfl,by simp,fun j hj=>by rw[List.getD_eq_getElem?_getD,List.getElem?_replicate];split <;> rfl⟩
theorem Rf.rh {a:Nat} (h:Rf W N n (fun j=>ht a (n-1-j))):Rh W N n a:=h
theorem Rh.rf {a:Nat} (h:Rh W N n a):Rf W N n (fun j=>ht a (n-1-j)):=h
end
theorem ht_nil (j:Nat):ht 0 j=0:=by simp [ht]
section
variable {ops:Array Oper} {rest:List Oper} {op:Oper} {a:Act} {Q:Exit->Act->World->Prop}
theorem zhK (hgd:op.guard=none) (s x:Operand) (ho:op.op=.call { callee:=.builtin .append,args:=#[s,x],argTypes:=#[52,52] }) (W0:World) (b M c:Nat)
 (hs:a.eval s=.slice (some ⟨W0.heap.size,0,none⟩) 1 1) (hx:a.eval x=.slice (some ⟨M,0,none⟩) 32 c) (hb:b<256 ^ 32) (hC:Ch W0 M 0 32 b)
 (h:∀ g cap w',W0.heap.size<=g->Ch w' g 0 33 b->Below W0.heap.size W0 w'->wpList Tryz.prog ops Q rest (a.put op.dst (.slice (some ⟨g,0,none⟩) 33 cap)) w') :
 wpList Tryz.prog ops Q (op :: rest) a (W0.alloc (.cells #[.int .i64 0] 3)):=by
 obtain⟨i,hi0,hz,hsz,hby⟩:=info_parts zbN
 have hk0:Below W0.heap.size W0 (W0.alloc (.cells #[.int .i64 0] 3)):=(Below.refl _ _).alloc (Nat.le_refl _) _
 have hC1:=hC.be hk0
 have hr:Row (W0.alloc (.cells #[.int .i64 0] 3)) W0.heap.size [.int .i64 0] 3:=Row.new _ _ _
 generalize hW1:W0.alloc (.cells #[.int .i64 0] 3)=W1 at *
 have hown:W1.ownsRow W0.heap.size 3 1 (.slice (some ⟨W0.heap.size,0,none⟩) 1 1) 1 (vI [0]):=by
  refine⟨rfl,.inr ⟨W0.heap.size,1,_,rfl,Nat.le_refl _,hr,Nat.le_refl _,by decide,rfl,rfl⟩⟩
 refine wpList_append_own _ hgd s x 52 ho W0.heap.size 3 i (.int .i64 0) 1 8 Tryz.underlying52 hi0 hz hsz hby rfl (by decide) _ 1 (vI [0]) hs hown ⟨M,0,none⟩ 32 c (vI (hts b 32 32)) hx (by rw[ziN,zcX]) ?_ ?_ (by unfold maxLen;omega) (by omega) hk0.size ?_
 ·intro j u hj
  have hj2:j<32:=by have:=(List.getElem?_eq_some_iff.1 hj).1;rwa [ziN,zcX] at this
  rw[zfH _ j (by rw[zcX];exact hj2),zjX _ _ _ _ hj2] at hj
  rw[Addr.add_mid]
  exact (hC1.2 j hj2).trans hj
 ·intro u hu
  obtain⟨x,_,rfl⟩:=List.mem_map.1 hu
  rfl
 ·intro v' w' h2 h3 _
  have hB2:Below W0.heap.size W0 w':=hk0.grown h3 hk0.size (fun k hk=>by
   have:k=W0.heap.size:=by simpa [Value.ownBlock] using hk.symm
   omega)
  rcases h2.2 with ⟨_,h0⟩|⟨g,cap,cur,hv,hg,hh,hc,hm,hcs,htk⟩
  ·omega
  ·subst hv
   refine h g cap w' hg ⟨(Array.getElem?_eq_some_iff.1 hh).1,fun t ht'=>?_⟩ hB2
   have hrw:Row w' g cur.toList 3:=by unfold Row;rw[hh]
   rw[Nat.zero_add]
   refine hrw.cell t _ ?_
   have h5:(vI [0]++vI (hts b 32 32))[t]?=cur.toList[t]?:=by
    rw[<-htk]
    exact List.getElem?_take_of_lt (by omega)
   rw[<-h5]
   cases t with
   |zero=>
    show some (Value.int .i64 _)=_
    rw[show 33-1-0=32 from rfl,zhY b 32 32 hb (Nat.le_refl _)]
   |succ t=>
    rw[show vI [0]++vI (hts b 32 32)=.int .i64 0 :: vI (hts b 32 32) from rfl,List.getElem?_cons_succ,zfH _ t (by rw[zcX];omega),zjX _ _ _ _ (by omega),show 33-1-(t+1)=32-1-t by omega]
end
theorem zhS (a b:Nat) (ha:a<9223372036854775808) (hb:b<9223372036854775808):bits .or .i64 (a:Int) (b:Int)=((a ||| b:Nat):Int):=by
 have hab:a ||| b<9223372036854775808:=Nat.or_lt_two_pow (n:=63) ha hb
 have key:(BitVec.ofInt 64 (a:Int) ||| BitVec.ofInt 64 (b:Int)).toNat=a ||| b:=by
  rw[BitVec.toNat_or,BitVec.toNat_ofInt,BitVec.toNat_ofInt]
  rw[show ((a:Int) % ((2 ^ 64:Nat):Int)).toNat=a by omega,show ((b:Int) % ((2 ^ 64:Nat):Int)).toNat=b by omega]
 show IntKind.i64.wrap ((BitVec.ofInt 64 (a:Int) ||| BitVec.ofInt 64 (b:Int)).toNat:Nat)=_
 rw[key,IntKind.wrap_i64]
 omega
theorem zzI (r:Nat) (hr:r<=7):IntKind.i64.wrap ((2:Int) ^ r)=((2 ^ r:Nat):Int)/\2 ^ r<=128:=by
 have:∀ r:Fin 8,IntKind.i64.wrap ((2:Int) ^ r.1)=((2 ^ r.1:Nat):Int)/\2 ^ r.1<=128:=by decide
 exact this ⟨r,by omega⟩
theorem Rf.drw {W:World} {N n:Nat} {f:Nat->Nat} (h:Rf W N n f):Rf W.drew N n f:=by
 obtain⟨l,h1,h2⟩:=h
 exact⟨l,Row.drew h1,h2⟩
theorem Ch.drw {W:World} {N o n a:Nat} (h:Ch W N o n a):Ch W.drew N o n a:=⟨h.1,h.2⟩
def shf (R e u j:Nat):Nat:=if j<u then ht (2*R+e) (32-j) else ht R (32-j)
theorem ztQ (a b N M c1 c2:Nat) (ha:a<256 ^ 32) (hb:b<256 ^ 32) (hb0:0<b) (w:World) (r1:Ch w N 0 32 a) (r2:Ch w M 0 32 b) :
 Calls Tryz.prog 37 #[.slice (some ⟨N,0,none⟩) 32 c1,.slice (some ⟨M,0,none⟩) 32 c2] w fun e w'=>∃ q r,e=.returned (.tuple #[.slice (some ⟨q,0,none⟩) 32 32,.slice (some ⟨r,1,none⟩) 32 32])/\Ch w' q 0 32 (a / b)/\Ch w' r 1 32 (a % b)/\Below w.heap.size w w':=by
 have HA:Hid (a<256 ^ 32):=ha
 have HB:Hid (b<256 ^ 32):=hb
 have HB0:Hid (0<b):=hb0
 have H1:Hid (Ch w N 0 32 a):=r1
 have H2:Hid (Ch w M 0 32 b):=r2
 clear ha hb hb0 r1 r2
 go_enter Tryz.func37,Tryz.ntmps37
 go_upto_region 3 with (first
  |(refine zbM rfl 52 (.const (.int .i64 32)) (.const (.int .i64 32)) rfl 3 32 _ _ rfl rfl rfl rfl (by omega) Tryz.underlying52 zbN ?_;simp only[Act.put,jA,jB,jC])
  |(refine zbM rfl 52 (.const (.int .i64 33)) (.const (.int .i64 33)) rfl 3 33 _ _ rfl rfl rfl rfl (by omega) Tryz.underlying52 zbN ?_;simp only[Act.put,jA,jB,jC]))
 obtain⟨W0,hW0⟩:∃ W,W=(w.alloc (Obj.cells (vI (List.replicate 32 0)).toArray 3)).alloc (Obj.cells (vI (List.replicate 33 0)).toArray 3):=⟨_,rfl⟩
 have hQ:Rf W0 w.heap.size 32 (fun _=>0):=by
  rw[hW0]
  exact (Rf.start w.heap.size 32 rfl).be ((Below.refl _ _).alloc (Nat.le_refl _) _)
 have hR:Rf W0 (w.heap.size+1) 33 (fun _=>0):=by rw[hW0];exact Rf.start _ 33 (by simp)
 have hB0:Below w.heap.size w W0:=by rw[hW0];exact ((Below.refl _ _).alloc (Nat.le_refl _) _).alloc (by simp) _
 have hsz:W0.heap.size=w.heap.size+2:=by rw[hW0];simp
 have HSZ:Hid (W0.heap.size=w.heap.size+2):=hsz
 rw[<-hW0]
 obtain⟨b1,hb1⟩:∃ b1,b1=(w.alloc (Obj.cells (vI (List.replicate 32 0)).toArray 3)).heap.size:=⟨_,rfl⟩
 have HB1:Hid (b1=w.heap.size+1):=by show b1=_;rw[hb1];simp
 rw[<-hb1]
 clear hb1
 have HQ:Hid (Rf W0 w.heap.size 32 (fun _=>0)):=hQ
 have HR:Hid (Rf W0 (w.heap.size+1) 33 (fun _=>0)):=hR
 clear hQ hR hW0 hsz
 go_wp2_with (refine zhK rfl (.tmp 15) (.tmp 16) rfl W0 b M c2 rfl rfl HB.out (H2.out.be hB0) ?_;intro g cap W2 hg hC2 hB2;simp only[Act.put,jA,jB,jC])
 have HQ2:Hid (Rf W2 w.heap.size 32 (fun _=>0)):=HQ.out.be hB2
 have HR2:Hid (Rf W2 (w.heap.size+1) 33 (fun _=>0)):=HR.out.be hB2
 have hBw:Below w.heap.size w W2:=hB0.trans (hB2.mono (by have:=HSZ.out;omega))
 have HG:Hid (w.heap.size+2<=g):=by have:=HSZ.out;show w.heap.size+2<=g;omega
 have HC2:Hid (Ch W2 g 0 33 b):=hC2
 clear HQ HR hB0 hB2 hg hC2 HSZ
 obtain⟨bw,hbw⟩:∃ bw,bw=w.heap.size:=⟨_,rfl⟩
 have HBW:Hid (bw=w.heap.size):=hbw
 go_loopw [7,9,10,11,12] (fun rv v _ _ _ wr=>∃ t n1:Nat,t<=256/\rv=.slice (some ⟨n1,0,none⟩) 33 33/\v=.int .i64 (t:Int)/\Below w.heap.size w wr/\Hid (w.heap.size<n1/\n1≠g/\Rf wr n1 33 (fun j=>ht (a / 2 ^ (256-t) % b) (32-j))/\Rf wr w.heap.size 32 (fun j=>ht (a / 2 ^ (256-t) / b*2 ^ (256-t)) (31-j))/\Ch wr g 0 33 b)) (fun _ v _ _ _ _=>256-(intOf v).toNat)
 case atStart=>
  refine⟨0,b1,Nat.zero_le _,rfl,rfl,hBw,by have:=HB1.out;omega,by have:=HG.out;have:=HB1.out;omega,?_,?_,HC2.out⟩
  ·rw[HB1.out]
   refine HR2.out.congr (fun j _=>?_)
   rw[Nat.sub_zero,show a / 2 ^ 256=0 from Nat.div_eq_of_lt (by rw[<-p32];exact HA.out),Nat.zero_mod,ht_nil]
  ·refine HQ2.out.congr (fun j _=>?_)
   rw[Nat.sub_zero,show a / 2 ^ 256=0 from Nat.div_eq_of_lt (by rw[<-p32];exact HA.out),Nat.zero_div,Nat.zero_mul,ht_nil]
 case round=>
  clear HQ2 HR2 hBw HC2
  obtain⟨t,n1,ht',rfl,rfl,hb,hI⟩:=hrel
  by_cases hlt:t<256
  ·obtain⟨Q0,hQ0⟩:∃ Q0,Q0=a / 2 ^ (256-t) / b:=⟨_,rfl⟩
   obtain⟨R0,hR0⟩:∃ R0,R0=a / 2 ^ (256-t) % b:=⟨_,rfl⟩
   obtain⟨e,he⟩:∃ e,e=hbit a t:=⟨_,rfl⟩
   have he2:e<2:=by rw[he];exact hbit_lt a t
   have hnx:=zsW a t hlt
   rw[<-he] at hnx
   obtain⟨d1,d2⟩:=zlD (a / 2 ^ (256-t)) b e HB0.out he2
   rw[<-hnx,<-hQ0,<-hR0] at d1
   rw[<-hnx,<-hR0] at d2
   obtain⟨i1,i2,i3,i4,i5⟩:=hI.out
   rw[<-hR0] at i3
   rw[<-hQ0] at i4
   have hRb:R0<b:=by rw[hR0];exact Nat.mod_lt _ HB0.out
   have hbB:=HB.out
   have h33:2*R0+e<256 ^ 33:=by
    rw[show 33=32+1 from rfl,Nat.pow_succ]
    generalize 256 ^ 32=p at *
    omega
   have hb33:b<256 ^ 33:=by
    rw[show 33=32+1 from rfl,Nat.pow_succ]
    generalize 256 ^ 32=p at *
    omega
   have HD1:Hid _:=d1
   have HD2:Hid _:=d2
   have H33:Hid (2*R0+e<256 ^ 33/\b<256 ^ 33):=⟨h33,hb33⟩
   have HN:Hid (w.heap.size<n1/\n1≠g):=⟨i1,i2⟩
   have HI4:Hid (Rf wr w.heap.size 32 (fun j=>ht (Q0*2 ^ (256-t)) (31-j))):=i4
   have HI5:Hid (Ch wr g 0 33 b):=i5
   have HI3:Hid (Rf wr n1 33 (shf R0 e 0)):=i3.congr (fun j _=>by unfold shf;rw[if_neg (Nat.not_lt_zero j)])
   obtain⟨j8,hj8⟩:∃ j8,j8=t / 8:=⟨_,rfl⟩
   obtain⟨m8,hm8⟩:∃ m8,m8=t % 8:=⟨_,rfl⟩
   obtain⟨r,hr⟩:∃ r,r=7-m8:=⟨_,rfl⟩
   have g1:=(H1.out.be hb).at0 j8 (by omega)
   obtain⟨x,hx⟩:∃ x,x=ht a (32-1-j8):=⟨_,rfl⟩
   rw[<-hx] at g1
   have hbt:=hbit_ht a t hlt
   rw[<-hj8,<-hm8,<-hr,show 31-j8=32-1-j8 by omega,<-hx,<-he] at hbt
   have hx2:x<256:=by rw[hx];exact zdH _ _
   have eK:(x:Int) / 2 ^ r=((x / 2 ^ r:Nat):Int):=by simp
   have hxr:x / 2 ^ r<=x:=Nat.div_le_self _ _
   obtain⟨y,hy⟩:∃ y,y=x / 2 ^ r:=⟨_,rfl⟩
   rw[<-hy] at eK hbt hxr
   have eA:bits .and .i64 (y:Int) 1=(e:Int):=by rw[zyG];omega
   have e1:(t:Int) / 8=(j8:Int):=by omega
   have e2:(t:Int) % 8=(m8:Int):=by omega
   have e3:(7:Int)-(m8:Int)=(r:Int):=by omega
   have lr:r<64:=by omega
   have lr7:r<=7:=by omega
   have lj:(j8:Int)<32:=by omega
   have lj':j8<32:=by omega
   have lx:(x:Int)<256:=by omega
   have ly:(y:Int)<256:=by omega
   have le:(e:Int)<2:=by omega
   have HQP:Hid (∀ Q j,j<32->(if j=j8 then ht (Q*2 ^ (256-t)) (31-j8)+2 ^ r else ht (Q*2 ^ (256-t)) (31-j))=ht ((2*Q+1)*2 ^ (256-(t+1))) (31-j)):=fun Q j hj=>by
    have:=q_put Q t j hlt hj
    rw[<-hj8,<-hm8,<-hr] at this
    exact this
   have HQL:Hid (∀ Q,ht (Q*2 ^ (256-t)) (31-j8) ||| 2 ^ r=ht (Q*2 ^ (256-t)) (31-j8)+2 ^ r/\ht (Q*2 ^ (256-t)) (31-j8)+2 ^ r<256):=fun Q=>by
    have h0:=q_low Q t hlt
    rw[<-hj8,<-hm8,<-hr] at h0
    exact or_bit ⟨_,zdH _ _⟩ ⟨r,by omega⟩ h0
   have HQZ:Hid (∀ Q,Q*2 ^ (256-t)=(2*Q)*2 ^ (256-(t+1))):=fun Q=>q_zero Q t hlt
   have hlt':(t:Int)<256:=by omega
   clear d1 d2 h33 hb33 i1 i2 i3 i4 i5 hI hQ0 hR0 he he2 hnx hRb hbB hj8 hm8 hr hx hbt hx2 hxr hy ht'
   go_wp2
   go_loopw [11,12] (fun v _ wx=>∃ u:Nat,u<=33/\v=.int .i64 (u:Int)/\Below w.heap.size w wx/\Hid (Rf wx n1 33 (shf R0 e u)/\Rf wx w.heap.size 32 (fun j=>ht (Q0*2 ^ (256-t)) (31-j))/\Ch wx g 0 33 b)) (fun v _ _=>33-(intOf v).toNat)
   case atStart=>exact⟨0,Nat.zero_le _,rfl,hb,HI3.out,HI4.out,HI5.out⟩
   case round=>
    clear hb HI3 HI4 HI5 g1 eK eA
    obtain⟨u,hu,rfl,hb,hI⟩:=hrel
    by_cases hul:u<33
    ·obtain⟨g3,gf⟩:=hI.out.1.cell u hul
     have hz:shf R0 e u u=ht R0 (32-u):=by unfold shf;rw[if_neg (Nat.lt_irrefl _)]
     rw[hz] at g3
     have HO:Hid (∀ j,j<33->j≠u->shf R0 e (u+1) j=shf R0 e u j):=fun j hj hne=>by
      unfold shf
      by_cases hl:j<u
      ·rw[if_pos hl,if_pos (by omega)]
      ·rw[if_neg hl,if_neg (by omega)]
     have HN2:Hid (∀ d:Nat,Below w.heap.size w (wr.setCell ⟨n1,u,none⟩ (.int .i64 (d:Int)))/\Rf (wr.setCell ⟨n1,u,none⟩ (.int .i64 (d:Int))) w.heap.size 32 (fun j=>ht (Q0*2 ^ (256-t)) (31-j))/\Ch (wr.setCell ⟨n1,u,none⟩ (.int .i64 (d:Int))) g 0 33 b):=fun d=>
      ⟨Below.setCell hb (Nat.le_of_lt HN.out.1) _,hI.out.2.1.other (Nat.ne_of_lt HN.out.1),hI.out.2.2.set_other _ _ _ (Ne.symm HN.out.2)⟩
     have hul':(u:Int)<33:=by omega
     by_cases h32:u<32
     ·obtain⟨g4,_⟩:=hI.out.1.cell (u+1) (by omega)
      have hz2:shf R0 e u (u+1)=ht R0 (31-u):=by unfold shf;rw[if_neg (by omega),show 32-(u+1)=31-u by omega]
      rw[hz2] at g4
      have hs:=sh_succ R0 e (31-u) (by omega)
      rw[show 31-u+1=32-u by omega] at hs
      have HD:Hid (ht R0 (32-u) % 128*2+ht R0 (31-u) / 128=shf R0 e (u+1) u):=by
       show _=_
       unfold shf
       rw[if_pos (by omega),hs]
      have y1:=zdH R0 (32-u)
      have y2:=zdH R0 (31-u)
      generalize ht R0 (32-u)=X at *
      generalize ht R0 (31-u)=Y at *
      obtain⟨v1,hv1⟩:∃ v1,v1=X % 128:=⟨_,rfl⟩
      obtain⟨v2,hv2⟩:∃ v2,v2=v1*2:=⟨_,rfl⟩
      obtain⟨v3,hv3⟩:∃ v3,v3=Y / 128:=⟨_,rfl⟩
      obtain⟨v4,hv4⟩:∃ v4,v4=v2+v3:=⟨_,rfl⟩
      rw[<-hv1,<-hv2,<-hv3,<-hv4] at HD
      have f1:(X:Int) % 128=(v1:Int):=by omega
      have f2:(v1:Int)*2=(v2:Int):=by omega
      have f3:(Y:Int) / 128=(v3:Int):=by omega
      have f4:(v2:Int)+(v3:Int)=(v4:Int):=by omega
      have l1:(v1:Int)<128:=by omega
      have l2:(v2:Int)<256:=by omega
      have l3:(v3:Int)<2:=by omega
      have l4:(v4:Int)<258:=by omega
      have lX:(X:Int)<256:=by omega
      have lY:(Y:Int)<256:=by omega
      have h32':(u:Int)<32:=by omega
      clear hv1 hv2 hv3 hv4 y1 y2 hs hz hz2 hu
      go_wp2
      exact⟨⟨u+1,by omega,by go_num,(HN2.out _).1,hI.out.1.put hul HD.out HO.out,(HN2.out _).2⟩,by simp [intOf];omega⟩
     ·obtain rfl:u=32:=by omega
      have hs:=sh_zero R0 e (by omega)
      have HD:Hid (ht R0 (32-32) % 128*2+e=shf R0 e (32+1) 32):=by
       show _=_
       unfold shf
       rw[if_pos (by omega),Nat.sub_self,hs]
      have y1:=zdH R0 (32-32)
      generalize ht R0 (32-32)=X at *
      obtain⟨v1,hv1⟩:∃ v1,v1=X % 128:=⟨_,rfl⟩
      obtain⟨v2,hv2⟩:∃ v2,v2=v1*2:=⟨_,rfl⟩
      obtain⟨v4,hv4⟩:∃ v4,v4=v2+e:=⟨_,rfl⟩
      rw[<-hv1,<-hv2,<-hv4] at HD
      have f1:(X:Int) % 128=(v1:Int):=by omega
      have f2:(v1:Int)*2=(v2:Int):=by omega
      have f4:(v2:Int)+(e:Int)=(v4:Int):=by omega
      have l1:(v1:Int)<128:=by omega
      have l2:(v2:Int)<256:=by omega
      have l4:(v4:Int)<258:=by omega
      have lX:(X:Int)<256:=by omega
      clear hv1 hv2 hv4 y1 hs hz hu h32 hul hul'
      go_wp2
      exact⟨⟨33,by omega,rfl,(HN2.out _).1,hI.out.1.put (by omega) HD.out HO.out,(HN2.out _).2⟩,by simp [intOf]⟩
    ·obtain rfl:u=33:=by omega
     obtain⟨i1,i2,i3⟩:=hI.out
     have hCr:Ch wr n1 0 33 (2*R0+e):=Rh.ch (Rf.rh (i1.congr (fun j hj=>by unfold shf;rw[if_pos hj])))
     have HC:Hid (Calls _ _ _ _ _):=zgC (2*R0+e) b 33 n1 g 33 cap (by decide) H33.out.1 H33.out.2 wr hCr i3
     have HI2:Hid (Rf wr w.heap.size 32 (fun j=>ht (Q0*2 ^ (256-t)) (31-j))):=i2
     have HI3:Hid (Ch wr g 0 33 b):=i3
     have HCr:Hid (Ch wr n1 0 33 (2*R0+e)):=hCr
     have HIR:Hid (Rf wr n1 33 (fun j=>ht (2*R0+e) (32-j))):=i1.congr (fun j hj=>by unfold shf;rw[if_pos hj])
     clear i1 i2 i3 hCr hI hu hul
     by_cases hge:b<=2*R0+e
     ·obtain⟨cv,hcv⟩:∃ cv,cv=zfN (2*R0+e) b:=⟨_,rfl⟩
      have hc0:0<=cv:=by
       rw[hcv]
       unfold zfN
       by_cases q:2*R0+e=b
       ·rw[if_pos q];decide
       ·rw[if_neg q,if_neg (by omega)];decide
      rw[<-hcv] at HC
      clear hcv
      have HL:Hid (∀ k,Calls Tryz.prog 35 #[.slice (some ⟨n1,0,none⟩) 33 33,.slice (some ⟨g,0,none⟩) 33 cap] (wr.drewN k) fun e' w'=>∃ R,e'=.returned (.slice (some ⟨R,0,none⟩) 33 33)/\(wr.drewN k).heap.size<=R/\Rh w' R 33 (2*R0+e-b)/\Below (wr.drewN k).heap.size (wr.drewN k) w'):=
       fun k=>less_g (2*R0+e) b 33 n1 g 33 cap (by decide) hge (wr.drewN k) (HCr.out.drew k) (HI3.out.drew k)
      have d1:=HD1.out
      have d2:=HD2.out
      rw[if_pos hge] at d1 d2
      have HD3:Hid (a / 2 ^ (256-(t+1)) / b=2*Q0+1):=d1
      have HD4:Hid (a / 2 ^ (256-(t+1)) % b=2*R0+e-b):=d2
      clear d1 d2 HD1 HD2
      go_upto_region 18 with (first
       |(go_at_call 34;refine HC.out.mono ?_;rintro e' w2 ⟨rfl,k2,rfl⟩)
       |(go_at_call 35;refine (HL.out _).mono ?_;rintro e' w3 ⟨n3,rfl,hn3,hr3,hb3⟩))
      have hbw:Below w.heap.size w (wr.drewN k2):=zbA hb _
      have HQ3:Hid (Rf w3 w.heap.size 32 (fun j=>ht (Q0*2 ^ (256-t)) (31-j))):=(HI2.out.drew k2).be hb3
      have HG3:Hid (Ch w3 g 0 33 b):=(HI3.out.drew k2).be hb3
      have hbw3:Below w.heap.size w w3:=hbw.trans (hb3.mono hbw.size)
      have HR3:Hid (Rh w3 n3 33 (2*R0+e-b)):=hr3
      have HN3:Hid (w.heap.size<n3/\n3≠g):=⟨Nat.lt_of_lt_of_le HI2.out.lt hn3,by have h1:g<wr.heap.size:=HI3.out.1;have h2:wr.heap.size<=n3:=hn3;omega⟩
      clear hr3 hn3 hb3 hbw hb
      obtain⟨g5,gf5⟩:=HQ3.out.cell j8 lj'
      obtain⟨o1,o2⟩:=HQL.out Q0
      obtain⟨s1,s2⟩:=zzI r lr7
      have HO:Hid (∀ j,j<32->j≠j8->ht ((2*Q0+1)*2 ^ (256-(t+1))) (31-j)=ht (Q0*2 ^ (256-t)) (31-j)):=fun j hj hne=>by
       have:=HQP.out Q0 j hj
       rw[if_neg hne] at this
       exact this.symm
      have HDz:Hid (ht (Q0*2 ^ (256-t)) (31-j8)+2 ^ r=ht ((2*Q0+1)*2 ^ (256-(t+1))) (31-j8)):=by
       have:=HQP.out Q0 j8 lj'
       rw[if_pos rfl] at this
       exact this
      generalize ht (Q0*2 ^ (256-t)) (31-j8)=X at g5 o1 o2 HDz
      obtain⟨y2,hy2⟩:∃ y2,y2=2 ^ r:=⟨_,rfl⟩
      rw[<-hy2] at o1 o2 s1 s2 HDz
      have eO:bits .or .i64 (X:Int) (y2:Int)=((X+y2:Nat):Int):=by rw[zhS _ _ (by omega) (by omega),o1]
      obtain⟨z,hz⟩:∃ z,z=X+y2:=⟨_,rfl⟩
      rw[<-hz] at eO HDz
      have s1':IntKind.i64.wrap (1*(2:Int) ^ r)=(y2:Int):=by rw[Int.one_mul];exact s1
      clear hy2 hz o1 o2 s2
      go_region
      go_wp2
      refine⟨⟨t+1,n3,hlt,rfl,by go_num,Below.drew (Below.setCell hbw3 (by simp) _),HN3.out.1,HN3.out.2,?_,?_,Ch.drw (HG3.out.set_other _ _ _ (by have:=HG.out;omega))⟩,by simp [intOf];omega⟩
      ·rw[HD4.out]
       exact Rf.drw ((Rh.rf HR3.out).other (by have:=HN3.out.1;omega))
      ·rw[HD3.out]
       exact Rf.drw (HQ3.out.put lj' HDz.out HO.out)
     ·have hcv:zfN (2*R0+e) b=-1:=by
       unfold zfN
       rw[if_neg (by omega),if_pos (by omega)]
      rw[hcv] at HC
      have d1:=HD1.out
      have d2:=HD2.out
      rw[if_neg hge] at d1 d2
      have HD3:Hid (a / 2 ^ (256-(t+1)) / b=2*Q0):=d1
      have HD4:Hid (a / 2 ^ (256-(t+1)) % b=2*R0+e):=d2
      clear d1 d2 HD1 HD2 hcv
      go_wp2_with (go_at_call 34;refine HC.out.mono ?_;rintro e' w2 ⟨rfl,k2,rfl⟩)
      refine⟨⟨t+1,n1,hlt,rfl,by go_num,zbA hb _,HN.out.1,HN.out.2,?_,?_,HI3.out.drew _⟩,by simp [intOf];omega⟩
      ·rw[HD4.out]
       exact HIR.out.drew _
      ·rw[HD3.out,<-HQZ.out]
       exact HI2.out.drew _
  ·obtain rfl:t=256:=by omega
   obtain⟨i1,i2,i3,i4,i5⟩:=hI.out
   have HX:Hid (Ch wr w.heap.size 0 32 (a / b)):=by
    refine Rh.ch (Rf.rh (i4.congr (fun j _=>?_)))
    rw[Nat.sub_self,Nat.pow_zero,Nat.div_one,Nat.mul_one]
   have HY:Hid (Ch wr n1 1 32 (a % b)):=by
    have h3:Ch wr n1 0 (1+32) (a % b):=Rh.ch (Rf.rh (i3.congr (fun j _=>by rw[Nat.sub_self,Nat.pow_zero,Nat.div_one])))
    have:=h3.on
    rw[Nat.zero_add,Nat.mod_eq_of_lt (Nat.lt_trans (Nat.mod_lt _ HB0.out) HB.out)] at this
    exact this
   clear i1 i2 i3 i4 i5 hI hlt ht'
   go_wp2
   go_region
   go_wp2
   go_ret2
   exact⟨w.heap.size,n1,rfl,Ch.drw HX.out,Ch.drw HY.out,Below.drew hb⟩
theorem zbG {ca:List Value} {a:Nat} (Ha:Wc ca a) (w:World):Calls Tryz.prog 31 #[.agg ca.toArray] w fun e w'=>∃ N,e=.returned (.slice (some ⟨N,0,none⟩) 32 32)/\w.heap.size<=N/\Ch w' N 0 32 a/\Below w.heap.size w w':=by
 rw[Ha]
 exact zxK a w
theorem zeP {cr:List Value} {a:Nat} (Hr:Wc cr a) (N o n c:Nat) (hn:n<=32) (ha:a<256 ^ n) (w:World) (h:Ch w N o n a\/n=0) :
 Calls Tryz.prog 15 #[.slice (some ⟨N,o,none⟩) n c] w fun e w'=>e=.returned (.agg cr.toArray)/\Below w.heap.size w w':=by
 rw[Hr]
 exact zyX a N o n c hn ha w h
theorem zcS (n:Nat) (h:n<18446744073709551616):vQ (dgs n 4)=[.int .u64 (n:Int),.int .u64 0,.int .u64 0,.int .u64 0]:=by
 have e:n=n+18446744073709551616*0:=by omega
 have e2:dgs n 4=n :: dgs 0 3:=by
  conv=>lhs;rw[e]
  exact zoF n 0 3 h
 rw[e2,zcP]
 rfl
theorem znP {cr:List Value} (B:Bool) (Hr:Wc cr (if B=true then 1 else 0)) (w:World):Calls Tryz.prog 17 #[.bool B] w fun e w'=>e=.returned (.agg cr.toArray)/\Below w.heap.size w w':=by
 have n2:Row (w.alloc (.cells #[.int .u64 0,.int .u64 0,.int .u64 0,.int .u64 0] 27)) w.heap.size [.int .u64 0,.int .u64 0,.int .u64 0,.int .u64 0] 27:=Row.new _ _ _
 have T:=Hr.there n2 rfl
 have HT:Hid (World.there _ _ _ _):=T
 cases B with
 |true=>
  have e:cr=[.int .u64 1,.int .u64 0,.int .u64 0,.int .u64 0]:=by
   have h:=show cr=vQ (dgs 1 4) from Hr
   rw[h,zcS 1 (by decide)]
   rfl
  have he:(#[.int .u64 1,.int .u64 0,.int .u64 0,.int .u64 0]:Array Value)=cr.toArray:=by rw[e]
  go_enter Tryz.func17,Tryz.ntmps17
  go_wp2_with (refine wpList_store_mid rfl 27 (.tmp 2) (.tmp 4) rfl w.heap.size 0 cr.toArray rfl (by show Value.agg _=Value.agg _;rw[<-he];rfl) HT.out Hr.info' Hr.one ?_;simp only[Act.put])
  exact bodyPost_ret (zaW Tryz.results17 _ _ w.heap.size 27 cr rfl (Row.new _ _ _) Tryz.underlying27 (by rw[Hr.len];exact zaL)) rfl ⟨rfl,(Below.refl _ _).alloc (Nat.le_refl _) _⟩
 |false=>
  have e:cr=[.int .u64 0,.int .u64 0,.int .u64 0,.int .u64 0]:=by
   have h:=show cr=vQ (dgs 0 4) from Hr
   rw[h,zcS 0 (by decide)]
   rfl
  have he:(#[.int .u64 0,.int .u64 0,.int .u64 0,.int .u64 0]:Array Value)=cr.toArray:=by rw[e]
  go_enter Tryz.func17,Tryz.ntmps17
  go_wp2_with (refine wpList_store_mid rfl 27 (.tmp 2) (.tmp 5) rfl w.heap.size 0 cr.toArray rfl (by show Value.agg _=Value.agg _;rw[<-he];rfl) HT.out Hr.info' Hr.one ?_;simp only[Act.put])
  exact bodyPost_ret (zaW Tryz.results17 _ _ w.heap.size 27 cr rfl (Row.new _ _ _) Tryz.underlying27 (by rw[Hr.len];exact zaL)) rfl ⟨rfl,(Below.refl _ _).alloc (Nat.le_refl _) _⟩
theorem zjS {cr:List Value} (n:Nat) (hn:n<9223372036854775808) (Hr:Wc cr n) (w:World):Calls Tryz.prog 38 #[.int .i64 (n:Int)] w fun e w'=>e=.returned (.agg cr.toArray)/\Below w.heap.size w w':=by
 have n2:Row (w.alloc (.cells #[.int .u64 0,.int .u64 0,.int .u64 0,.int .u64 0] 27)) w.heap.size [.int .u64 0,.int .u64 0,.int .u64 0,.int .u64 0] 27:=Row.new _ _ _
 have T:=Hr.there n2 rfl
 have HT:Hid (World.there _ _ _ _):=T
 have e:cr=[.int .u64 (n:Int),.int .u64 0,.int .u64 0,.int .u64 0]:=by
  have h:=show cr=vQ (dgs n 4) from Hr
  rw[h,zcS n (by omega)]
 have he:(#[.int .u64 (n:Int),.int .u64 0,.int .u64 0,.int .u64 0]:Array Value)=cr.toArray:=by rw[e]
 have eC:IntKind.u64.wrap (n:Int)=(n:Int):=by rw[IntKind.wrap_u64];omega
 go_enter Tryz.func38,Tryz.ntmps38
 go_wp2_with (refine wpList_store_mid rfl 27 (.tmp 2) (.tmp 5) rfl w.heap.size 0 cr.toArray rfl (by show Value.agg _=Value.agg _;rw[<-he];rfl) HT.out Hr.info' Hr.one ?_;simp only[Act.put])
 exact bodyPost_ret (zaW Tryz.results38 _ _ w.heap.size 27 cr rfl (Row.new _ _ _) Tryz.underlying27 (by rw[Hr.len];exact zaL)) rfl ⟨rfl,(Below.refl _ _).alloc (Nat.le_refl _) _⟩
theorem zeO {ca:List Value} {a:Nat} (Ha:Wc ca a) (ha:a<2 ^ 256) {B:Bool} (hB:decide (a=0)=B) (w:World):Calls Tryz.prog 18 #[.agg ca.toArray] w fun e w'=>e=.returned (.bool B)/\Below w.heap.size w w':=by
 have n1:Row (w.alloc (.cells ca.toArray 27)) w.heap.size ca 27:=Row.new _ _ _
 have z:Wc [.int .u64 0,.int .u64 0,.int .u64 0,.int .u64 0] 0:=by
  show _=_
  rw[zcS 0 (by decide)]
  rfl
 have HA:Hid (a<2 ^ 256):=ha
 have HZ:Hid (0<2 ^ 256):=Nat.two_pow_pos _
 clear ha
 go_enter Tryz.func18,Tryz.ntmps18
 go_wp2_with (first
  |(refine wpList_load_mid rfl 27 (.tmp 1) rfl w.heap.size 0 rfl ca _ n1.all Tryz.underlying27 rfl Ha.info ?_;simp only[Act.put,jA,jB,jC])
  |(refine zhC rfl (.tmp 3) (.tmp 4) _ rfl Ha z HA.out HZ.out rfl rfl hB ?_;simp only[Act.put,jA,jB,jC]))
 go_ret
 exact⟨rfl,(Below.refl _ _).alloc (Nat.le_refl _) _⟩
end Go.Proofs.YtedeobikfddmgaaGreat
