import Derived.Test.YtedeobikfddmgaaGreatMkAA
import Derived.Test.YtedeobikfddmgaaGreatMkB
import Derived.BigQuiet
import Derived.Test.YtedeobikfddmgaaGreatWDig
set_option maxRecDepth 100000
set_option maxHeartbeats 16000000
namespace Go.Proofs.YtedeobikfddmgaaGreat
open Go Go.RowKit
open Sha
open Wd
def ic (c p a n:Nat):List Value:=.int .i64 (c:Int) :: .int .i64 (p:Int) :: (wq a++[.int .i64 (n:Int)])
theorem zdD (c p a n:Nat):(ic c p a n).length=7:=by unfold ic;rw[List.length_cons,List.length_cons,List.length_append,zaV];rfl
theorem zfA (c p a n:Nat):(ic c p a n).toArray.all (·.oneCell')=true:=by
 rw[<-Array.all_toList]
 unfold ic
 have:=zbH a
 rw[<-Array.all_toList] at this
 rw[List.all_cons,List.all_cons,List.all_append,this]
 rfl
theorem zeW:(Tryz.prog.info? 97).map (·.size)=some 7:=by kernel_rfl
theorem zcQ (c p a n:Nat):(Tryz.prog.info? 97).map (·.size)=some (ic c p a n).length:=by rw[zdD];exact zeW
theorem ic_0 (c p a n:Nat):(ic c p a n)[0]?=some (.int .i64 (c:Int)):=rfl
theorem zsZ (c p a n:Nat):(ic c p a n)[6]?=some (.int .i64 (n:Int)):=by
 unfold ic
 rw[zaQ]
 rfl
theorem ic_set1 (c p a n m:Nat):(ic c p a n).set 1 (.int .i64 (m:Int))=ic c m a n:=rfl
theorem ztA (c p a n m:Nat):(ic c p a n).set 6 (.int .i64 (m:Int))=ic c p a m:=by
 unfold ic
 rw[zaQ]
 rfl
theorem ic_num (c p a n m:Nat):(ic c p a n).take 2++wq m++(ic c p a n).drop (2+(wq m).length)=ic c p m n:=by
 rw[zaV]
 unfold ic
 rw[zaQ,zaQ]
 rfl
theorem zI_ic:zI=ic 0 0 0 0:=by unfold ic;rw[ziW];rfl
def zaZ (c:Nat):Nat:=[0,0,1,0,2,3,0,0,0,0,0,0,0,0,5,5,4,0,0,0,0,0,0,0,0,0,0,0].getD c 0
theorem znE (c:Nat) (h:c<28):zaZ c<=5:=by
 revert c
 decide
def lo (k:Nat):Nat:=if k=1\/k=3 then 1 else 0
def hi (k:Nat):Nat:=if k=1 then 32 else if k=2\/k=3 then 15 else 255
theorem zgM (c:Nat) (h:c<28):mtab[c*6+1]?=some (.int .i64 (zaZ c:Int)):=by
 match c,h with
 |0,_=>exact rfl
 |1,_=>exact rfl
 |2,_=>exact rfl
 |3,_=>exact rfl
 |4,_=>exact rfl
 |5,_=>exact rfl
 |6,_=>exact rfl
 |7,_=>exact rfl
 |8,_=>exact rfl
 |9,_=>exact rfl
 |10,_=>exact rfl
 |11,_=>exact rfl
 |12,_=>exact rfl
 |13,_=>exact rfl
 |14,_=>exact rfl
 |15,_=>exact rfl
 |16,_=>exact rfl
 |17,_=>exact rfl
 |18,_=>exact rfl
 |19,_=>exact rfl
 |20,_=>exact rfl
 |21,_=>exact rfl
 |22,_=>exact rfl
 |23,_=>exact rfl
 |24,_=>exact rfl
 |25,_=>exact rfl
 |26,_=>exact rfl
 |27,_=>exact rfl
 |n+28,h=>exact absurd h (by omega)
def ow (k:Nat) (r:List (BitVec 8)):Nat:=if k=0 then 0 else if k=5 then 2 else if k=1 then (match r with | []=>1|x :: _=>1+x.toNat) else 1
theorem zfI (k:Nat) (hk:k<=5) (w:World):Calls Tryz.prog 101 #[.int .i64 (k:Int)] w fun e w'=>e=.returned (.tuple #[.int .i64 (lo k:Int),.int .i64 (hi k:Int)])/\w'=w:=by
 match k,hk with
 |0,_=>
  go_enter Tryz.func101,Tryz.ntmps101
  go_wp2
  go_ret2
  exact⟨rfl,rfl⟩
 |1,_=>
  go_enter Tryz.func101,Tryz.ntmps101
  go_wp2
  go_ret2
  exact⟨rfl,rfl⟩
 |2,_=>
  go_enter Tryz.func101,Tryz.ntmps101
  go_wp2
  go_ret2
  exact⟨rfl,rfl⟩
 |3,_=>
  go_enter Tryz.func101,Tryz.ntmps101
  go_wp2
  go_ret2
  exact⟨rfl,rfl⟩
 |4,_=>
  go_enter Tryz.func101,Tryz.ntmps101
  go_wp2
  go_ret2
  exact⟨rfl,rfl⟩
 |5,_=>
  go_enter Tryz.func101,Tryz.ntmps101
  go_wp2
  go_ret2
  exact⟨rfl,rfl⟩
theorem ow_0 (A:Option Addr) (n cap:Nat) (w:World):Calls Tryz.prog 88 #[.int .i64 0,.slice A n cap] w fun e w'=>e=.returned (.int .i64 0)/\w'=w:=by
 go_enter Tryz.func88,Tryz.ntmps88
 go_wp2
 go_ret
 exact⟨rfl,rfl⟩
theorem ow_5 (A:Option Addr) (n cap:Nat) (w:World):Calls Tryz.prog 88 #[.int .i64 5,.slice A n cap] w fun e w'=>e=.returned (.int .i64 2)/\w'=w:=by
 go_enter Tryz.func88,Tryz.ntmps88
 go_wp2
 go_ret
 exact⟨rfl,rfl⟩
theorem ow_2 (A:Option Addr) (n cap:Nat) (w:World):Calls Tryz.prog 88 #[.int .i64 2,.slice A n cap] w fun e w'=>e=.returned (.int .i64 1)/\w'=w:=by
 go_enter Tryz.func88,Tryz.ntmps88
 go_wp2
 go_ret
 exact⟨rfl,rfl⟩
theorem ow_3 (A:Option Addr) (n cap:Nat) (w:World):Calls Tryz.prog 88 #[.int .i64 3,.slice A n cap] w fun e w'=>e=.returned (.int .i64 1)/\w'=w:=by
 go_enter Tryz.func88,Tryz.ntmps88
 go_wp2
 go_ret
 exact⟨rfl,rfl⟩
theorem ow_4 (A:Option Addr) (n cap:Nat) (w:World):Calls Tryz.prog 88 #[.int .i64 4,.slice A n cap] w fun e w'=>e=.returned (.int .i64 1)/\w'=w:=by
 go_enter Tryz.func88,Tryz.ntmps88
 go_wp2
 go_ret
 exact⟨rfl,rfl⟩
theorem ow_1e (A:Option Addr) (cap:Nat) (w:World):Calls Tryz.prog 88 #[.int .i64 1,.slice A 0 cap] w fun e w'=>e=.returned (.int .i64 1)/\w'=w:=by
 go_enter Tryz.func88,Tryz.ntmps88
 go_wp2
 go_ret
 exact⟨rfl,rfl⟩
theorem ow_1 (g o n cap:Nat) (h:0<n) (x:BitVec 8) (w:World) (c0:w.cell? ⟨g,o,none⟩=some (.int .u8 (c x))):Calls Tryz.prog 88 #[.int .i64 1,.slice (some ⟨g,o,none⟩) n cap] w fun e w'=>e=.returned (.int .i64 ((1+x.toNat:Nat):Int))/\w'=w:=by
 have hx:c x=(x.toNat:Int):=rfl
 have hlt:=x.isLt
 go_enter Tryz.func88,Tryz.ntmps88
 go_wp2
 go_ret
 exact⟨by rw[Int.natCast_add];rfl,rfl⟩
theorem zdG (k:Nat) (hk:k<=5) (A:Option Addr) (n cap:Nat) (r:List (BitVec 8)) (hr:r.length=n) (w:World) (hv:SlAt w (.slice A n cap) r):Calls Tryz.prog 88 #[.int .i64 (k:Int),.slice A n cap] w fun e w'=>e=.returned (.int .i64 (ow k r:Int))/\w'=w:=by
 match k,hk with
 |0,_=>exact ow_0 A n cap w
 |2,_=>exact ow_2 A n cap w
 |3,_=>exact ow_3 A n cap w
 |4,_=>exact ow_4 A n cap w
 |5,_=>exact ow_5 A n cap w
 |1,_=>
  cases r with
  |nil=>
   subst hr
   exact ow_1e A cap w
  |cons x r=>
   rcases hv with ⟨h0,_⟩|⟨g,o,c',e,_,hr'⟩
   ·cases h0
   ·simp only[Value.slice.injEq] at e
    obtain⟨rfl,_,_⟩:=e
    exact ow_1 g o n cap (by rw[<-hr];exact Nat.succ_pos _) x w (hr' 0 _ rfl)
theorem zgG {R:Nat->Prop} {w W:World} (h:Gro R w W) (b o:Nat) (vs:List Value) (hb:R b):Gro R w (W.setCells b o vs):=by
 induction vs generalizing W o with
 |nil=>exact h
 |cons v r ih=>exact ih (h.set b o v hb) (o+1)
theorem zhT {w:World} {g o:Nat} {b:List (BitVec 8)} (h:w.rangeAt g o (vB b)) (i:Nat) (hi:i<b.length):w.cell? ⟨g,o+i,none⟩=some (.int .u8 (((b.getD i 0#8).toNat:Nat):Int)):=by
 refine h i _ ?_
 unfold vB
 rw[List.getElem?_map,List.getD_eq_getElem?_getD,List.getElem?_eq_getElem hi]
 rfl
theorem ro_0 (p:Nat) (v:Value) (w:World):Calls Tryz.prog 89 #[.pointer (some ⟨p,0,none⟩),.int .i64 0,v] w fun e w'=>e=.returned (.bool true)/\w'=w:=by
 go_enter Tryz.func89,Tryz.ntmps89
 go_wp2
 go_ret
 exact⟨rfl,rfl⟩
theorem ro_no (p k g o n cap m:Nat) (h1:1<=k) (h5:k<=5) (hn:0<n) (hm:m<256) (hno:m<lo k\/hi k<m) (w:World) (c0:w.cell? ⟨g,o,none⟩=some (.int .u8 (m:Int))):Calls Tryz.prog 89 #[.pointer (some ⟨p,0,none⟩),.int .i64 (k:Int),.slice (some ⟨g,o,none⟩) n cap] w fun e w'=>e=.returned (.bool false)/\w'=w:=by
 have HBD:Hid _:=zfI k h5 w
 obtain⟨l,hl⟩:∃ l,l=lo k:=⟨_,rfl⟩
 obtain⟨u,hu⟩:∃ u,u=hi k:=⟨_,rfl⟩
 have l1:l<=1:=by rw[hl];unfold lo;split <;> omega
 have u1:u<=255:=by rw[hu];unfold hi;split <;> (try split) <;> omega
 rw[<-hl,<-hu] at HBD hno
 clear hl hu
 go_enter Tryz.func89,Tryz.ntmps89
 by_cases hlt:m<l
 ·go_wp2_with (go_at_call 101;refine Calls.mono HBD.out ?_;rintro e X ⟨rfl,hqq⟩;obtain rfl:=hqq.symm)
  go_ret
  exact⟨rfl,rfl⟩
 ·have hgt:u<m:=hno.resolve_left hlt
  go_wp2_with (go_at_call 101;refine Calls.mono HBD.out ?_;rintro e X ⟨rfl,hqq⟩;obtain rfl:=hqq.symm)
  go_ret
  exact⟨rfl,rfl⟩
theorem ro_x (p k g o n cap m:Nat) (hk:k=2\/k=3\/k=4) (hn:0<n) (hm:m<256) (hlo:lo k<=m) (hhi:m<=hi k) (ci pi:Nat) (w:World) (c0:w.cell? ⟨g,o,none⟩=some (.int .u8 (m:Int))) (hp:Row w p (ic ci pi 0 0) 97):Calls Tryz.prog 89 #[.pointer (some ⟨p,0,none⟩),.int .i64 (k:Int),.slice (some ⟨g,o,none⟩) n cap] w fun e w'=>e=.returned (.bool true)/\Row w' p (ic ci pi 0 m) 97/\Gro (·=p) w w':=by
 have h5:k<=5:=by omega
 have HBD:Hid _:=zfI k h5 w
 obtain⟨l,hl⟩:∃ l,l=lo k:=⟨_,rfl⟩
 obtain⟨u,hu⟩:∃ u,u=hi k:=⟨_,rfl⟩
 have l1:l<=1:=by rw[hl];unfold lo;split <;> omega
 have u1:u<=255:=by rw[hu];unfold hi;split <;> (try split) <;> omega
 rw[<-hl,<-hu] at HBD
 rw[<-hl] at hlo
 rw[<-hu] at hhi
 have HP:Hid (Row w p (ic ci pi 0 0) 97):=hp
 have k0:k≠0:=by omega
 have k1:k≠1:=by omega
 have k5:k≠5:=by omega
 have c6:=hp.cell 6 _ (zsZ ci pi 0 0)
 have f6:=hp.thaw 6
 clear hl hu hk hp
 go_enter Tryz.func89,Tryz.ntmps89
 go_wp2_with (go_at_call 101;refine Calls.mono HBD.out ?_;rintro e X ⟨rfl,hqq⟩;obtain rfl:=hqq.symm)
 go_ret
 refine⟨rfl,?_,?_⟩
 ·have q:=HP.out.set 6 (.int .i64 (m:Int))
  rw[ztA] at q
  exact q
 ·exact (Gro.refl _ _).set p 6 _ rfl
theorem or_i64 (m m1:Nat) (hm:m<256) (hm1:m1<256):bits BinOp.or IntKind.i64 ((m:Int)*256) (m1:Int)=((m*256+m1:Nat):Int):=by
 have e:m*256+m1=m*256 ||| m1:=by
  have:=Nat.shiftLeft_add_eq_or_of_lt (i:=8) (show m1<2 ^ 8 by omega) m
  rwa [Nat.shiftLeft_eq] at this
 have hlt:m*256 ||| m1<65536:=by rw[<-e];omega
 rw[e]
 have e2:∀ n:Nat,n<65536->(BitVec.ofInt IntKind.i64.bits (n:Int)).toNat=n:=fun n h=>by
  show (BitVec.ofInt 64 (n:Int)).toNat=n
  rw[BitVec.toNat_ofInt]
  have e2:((2 ^ 64:Nat):Int)=18446744073709551616:=by decide
  omega
 show IntKind.i64.wrap (((BitVec.ofInt IntKind.i64.bits ((m:Int)*256)) ||| (BitVec.ofInt IntKind.i64.bits (m1:Int))).toNat:Int)=_
 rw[show (m:Int)*256=((m*256:Nat):Int) by omega,BitVec.toNat_or,e2 _ (by omega),e2 _ (by omega)]
 rw[IntKind.wrap_i64]
 omega
theorem zgX {w:World} {g o:Nat} {b:List (BitVec 8)} (h:w.rangeAt g o (vB b)) (k:Nat):w.rangeAt g (o+k) (vB (b.drop k)):=fun j v hj=>by
 have:=h (k+j) v (by rw[<-hj];unfold vB;rw[List.map_drop,List.getElem?_drop])
 rwa [<-Nat.add_assoc] at this
theorem ro_1 (p g o n cap m:Nat) (hn:n=1+m) (h1:1<=m) (hm:m<=32) (hc:n<=cap) (b:List (BitVec 8)) (hb:b.length=n) (ci pi:Nat) (w:World) (hr:w.rangeAt g o (vB b)) (c0:w.cell? ⟨g,o,none⟩=some (.int .u8 (m:Int))) (hp:Row w p (ic ci pi 0 0) 97):Calls Tryz.prog 89 #[.pointer (some ⟨p,0,none⟩),.int .i64 1,.slice (some ⟨g,o,none⟩) n cap] w fun e w'=>e=.returned (.bool true)/\Row w' p (ic ci pi (nb (b.drop 1)) 0) 97/\Gro (·=p) w w':=by
 have HBD:Hid (Calls Tryz.prog 101 #[.int .i64 1] w fun e w'=>e=.returned (.tuple #[.int .i64 1,.int .i64 32])/\w'=w):=zfI 1 (by decide) w
 have hn0:0<n:=by omega
 have hn1:1<n:=by omega
 have HP:Hid (Row w p (ic ci pi 0 0) 97):=hp
 obtain⟨L,hL⟩:∃ L,L=wq (nb (b.drop 1)):=⟨_,rfl⟩
 have HL:Hid (L=wq (nb (b.drop 1))):=hL
 have HNU:Hid _:=zfF g (o+1) m (cap-1) (b.drop 1) (by rw[List.length_drop,hb,hn];omega) h1 hm w (zgX hr 1)
 rw[<-hL] at HNU
 have HI:Hid ((Tryz.prog.info? 27).map (·.size)=some L.toArray.size):=by show _=_;rw[List.size_toArray,hL];exact zaU _
 have HO:Hid (L.toArray.all (·.oneCell')=true):=by show _=_;rw[hL];exact zbH _
 have HN:Hid (n-1=m):=by show _=_;omega
 have HC:Hid (n<=cap):=hc
 clear hL hr hb hn hp hc
 go_enter Tryz.func89,Tryz.ntmps89
 go_wp2_with (first
  |(go_at_call 101;refine Calls.mono HBD.out ?_;rintro e X ⟨rfl,hqq⟩;obtain rfl:=hqq.symm)
  |(refine zcG rfl 22 (.tmp 37) (.const (.int .i64 1)) rfl 5 g o n cap 1 1 rfl rfl rfl (Nat.le_of_lt hn1) HC.out Tryz.underlying22 zfD ?_;intro A qA;obtain rfl:=qA hn1;rw[HN.out];simp only[Act.put,jA,jB,jC])
  |(go_at_call 84;refine Calls.mono HNU.out ?_;rintro e X ⟨rfl,q2⟩;have BX:Hid (Below w.heap.size w X):=q2;have RX:Hid (Row X p (ic ci pi 0 0) 97):=Row.below HP.out q2 HP.out.lt;clear q2)
  |(refine wpList_store_mid rfl 27 (.tmp 41) (.tmp 39) rfl p 2 L.toArray rfl rfl (RX.out.there 2 _ (by rw[List.size_toArray,HL.out,zaV,zdD];decide)) HI.out HO.out ?_;obtain⟨Y,hY⟩:∃ Y,Y=X.setCells p 2 L.toArray.toList:=⟨_,rfl⟩;rw[<-hY];have EY:Hid (Y=X.setCells p 2 L):=hY;clear hY;simp only[Act.put]))
 go_ret
 refine⟨rfl,?_,?_⟩
 ·have q:=Row.setCells 2 L RX.out (by rw[HL.out,zaV,zdD];decide)
  rw[HL.out,ic_num,<-HL.out,<-EY.out] at q
  exact q
 ·rw[EY.out]
  exact zgG (Gro.of_below BX.out) p 2 _ rfl
theorem ro_5 (p g o cap m m1:Nat) (hm:m<256) (hm1:m1<256) (ci pi:Nat) (w:World) (c0:w.cell? ⟨g,o,none⟩=some (.int .u8 (m:Int))) (c1:w.cell? ⟨g,o+1,none⟩=some (.int .u8 (m1:Int))) (hp:Row w p (ic ci pi 0 0) 97):Calls Tryz.prog 89 #[.pointer (some ⟨p,0,none⟩),.int .i64 5,.slice (some ⟨g,o,none⟩) 2 cap] w fun e w'=>e=.returned (.bool true)/\Row w' p (ic ci pi 0 (m*256+m1)) 97/\Gro (·=p) w w':=by
 have HBD:Hid (Calls Tryz.prog 101 #[.int .i64 5] w fun e w'=>e=.returned (.tuple #[.int .i64 0,.int .i64 255])/\w'=w):=zfI 5 (by decide) w
 have HP:Hid (Row w p (ic ci pi 0 0) 97):=hp
 have c6:=hp.cell 6 _ (zsZ ci pi 0 0)
 have f6:=hp.thaw 6
 clear hp
 go_enter Tryz.func89,Tryz.ntmps89
 go_wp2_with (first
  |(go_at_call 101;refine Calls.mono HBD.out ?_;rintro e X ⟨rfl,hqq⟩;obtain rfl:=hqq.symm))
 go_ret
 rw[or_i64 m m1 hm hm1]
 refine⟨rfl,?_,?_⟩
 ·have q:=HP.out.set 6 (.int .i64 ((m*256+m1:Nat):Int))
  rw[ztA] at q
  exact q
 ·exact (Gro.refl _ _).set p 6 _ rfl
def ro (k:Nat) (b:List (BitVec 8)):Option (Nat × Nat):=
 if k=0 then some (0,0) else
 if (b.getD 0 0#8).toNat<lo k\/hi k<(b.getD 0 0#8).toNat then none else
 if k=1 then some (nb (b.drop 1),0) else
 if k=5 then some (0,(b.getD 0 0#8).toNat*256+(b.getD 1 0#8).toNat) else some (0,(b.getD 0 0#8).toNat)
theorem ztO (k:Nat) (h:k≠0) (b:List (BitVec 8)):1<=ow k b:=by
 unfold ow
 rw[if_neg h]
 split
 ·decide
 ·split
  ·split <;> omega
  ·exact Nat.le_refl _
theorem ow_one (x:BitVec 8) (r:List (BitVec 8)):ow 1 (x :: r)=1+x.toNat:=rfl
theorem zhH (k p d cap ci pi a n:Nat) (hk:k<=5) (A:Option Addr) (b:List (BitVec 8)) (hb:b.length=d) (hw:d=ow k b) (hro:ro k b=some (a,n)) (w:World) (hv:SlAt w (.slice A d cap) b) (hp:Row w p (ic ci pi 0 0) 97):Calls Tryz.prog 89 #[.pointer (some ⟨p,0,none⟩),.int .i64 (k:Int),.slice A d cap] w fun e w'=>e=.returned (.bool true)/\Row w' p (ic ci pi a n) 97/\Gro (·=p) w w':=by
 by_cases k0:k=0
 ·subst k0
  unfold ro at hro
  rw[if_pos rfl] at hro
  obtain⟨rfl,rfl⟩:0=a/\0=n:=by simpa using hro
  refine (ro_0 p _ w).mono ?_
  rintro e w' ⟨rfl,rfl⟩
  exact⟨rfl,hp,Gro.refl _ _⟩
 ·have hd:1<=d:=by rw[hw];exact ztO k k0 b
  rcases hv with ⟨h0,_⟩|⟨g,o,c',e,hc,hr⟩
  ·subst h0;simp at hb;omega
  ·simp only[Value.slice.injEq] at e
   obtain⟨rfl,_,rfl⟩:=e
   rw[hb] at hc
   have c0:=zhT hr 0 (by omega)
   rw[Nat.add_zero] at c0
   have hm:=(b.getD 0 0#8).isLt
   unfold ro at hro
   rw[if_neg k0] at hro
   split at hro
   ·cases hro
   ·rename_i hin
    have hlo:lo k<=(b.getD 0 0#8).toNat:=Nat.le_of_not_lt (fun q=>hin (.inl q))
    have hhi:(b.getD 0 0#8).toNat<=hi k:=Nat.le_of_not_lt (fun q=>hin (.inr q))
    split at hro
    ·rename_i k1
     subst k1
     obtain⟨rfl,rfl⟩:nb (b.drop 1)=a/\0=n:=by simpa using hro
     have hd2:d=1+(b.getD 0 0#8).toNat:=by
      rw[hw]
      cases b with
      |nil=>simp at hb;omega
      |cons x r=>exact ow_one x r
     exact ro_1 p g o d cap _ hd2 hlo hhi hc b hb ci pi w hr c0 hp
    ·rename_i k1
     split at hro
     ·rename_i k5
      subst k5
      obtain⟨rfl,rfl⟩:0=a/\_=n:=by simpa using hro
      obtain rfl:d=2:=hw
      have c1:=zhT hr 1 (by omega)
      exact ro_5 p g o cap _ _ hm (b.getD 1 0#8).isLt ci pi w c0 c1 hp
     ·rename_i k5
      obtain⟨rfl,rfl⟩:0=a/\_=n:=by simpa using hro
      exact ro_x p k g o d cap _ (by omega) (by omega) hm hlo hhi ci pi w c0 hp
theorem zhG (k p d cap:Nat) (hk:k<=5) (A:Option Addr) (b:List (BitVec 8)) (hb:b.length=d) (hw:d=ow k b) (hro:ro k b=none) (w:World) (hv:SlAt w (.slice A d cap) b):Calls Tryz.prog 89 #[.pointer (some ⟨p,0,none⟩),.int .i64 (k:Int),.slice A d cap] w fun e w'=>e=.returned (.bool false)/\w'=w:=by
 by_cases k0:k=0
 ·subst k0
  unfold ro at hro
  rw[if_pos rfl] at hro
  cases hro
 ·have hd:1<=d:=by rw[hw];exact ztO k k0 b
  rcases hv with ⟨h0,_⟩|⟨g,o,c',e,hc,hr⟩
  ·subst h0;simp at hb;omega
  ·simp only[Value.slice.injEq] at e
   obtain⟨rfl,_,rfl⟩:=e
   have c0:=zhT hr 0 (by omega)
   rw[Nat.add_zero] at c0
   have hm:=(b.getD 0 0#8).isLt
   unfold ro at hro
   rw[if_neg k0] at hro
   split at hro
   ·rename_i hin
    exact ro_no p k g o d cap _ (by omega) hk (by omega) hm hin w c0
   ·split at hro
    ·cases hro
    ·split at hro <;> cases hro
section
variable {P:Program} {ops:Array Oper} {rest:List Oper} {op:Oper} {a:Act} {w:World} {Q:Exit->Act->World->Prop}
end
abbrev ic0 (m:Nat):List Value:=[.int .i64 (m:Int),.int .i64 0,.int .u64 0,.int .u64 0,.int .u64 0,.int .u64 0,.int .i64 0]
theorem ztP (k:Nat) (r:List (BitVec 8)) (d:Nat) (hd:d=ow k r) (hl:d<=r.length):d=ow k (r.take d):=by
 by_cases k0:k=0
 ·subst k0;exact hd
 ·have:=ztO k k0 r
  cases r with
  |nil=>simp at hl;omega
  |cons x r=>
   obtain⟨e,rfl⟩:∃ e,d=e+1:=⟨d-1,by omega⟩
   exact hd
theorem ow_le (k:Nat) (r:List (BitVec 8)):ow k r<=256:=by
 unfold ow
 split
 ·decide
 ·split
  ·decide
  ·split
   ·split
    ·decide
    ·rename_i x _;have:=x.isLt;omega
   ·decide
theorem SlAt.take' {w:World} {A:Option Addr} {n c:Nat} {d:List (BitVec 8)} (h:SlAt w (.slice A n c) d) (hn:n=d.length) (k:Nat) (hk:k<=n):SlAt w (.slice A k c) (d.take k):=by
 have e:(d.take k).length=k:=by rw[List.length_take];omega
 rcases h with ⟨h0,_⟩|⟨g,o,c',e',hc,hr⟩
 ·subst h0
  simp at hn
  obtain rfl:k=0:=by omega
  exact .inl ⟨rfl,_,_,rfl⟩
 ·simp only[Value.slice.injEq] at e'
  obtain⟨rfl,_,rfl⟩:=e'
  refine .inr ⟨g,o,_,by rw[e],by rw[e];omega,fun j v hj=>hr j v ?_⟩
  unfold vB at hj ⊢
  rw[List.map_take,List.getElem?_take] at hj
  split at hj
  ·exact hj
  ·cases hj
theorem zlF (m:Nat):ic0 m=ic m 0 0 0:=by unfold ic;rw[ziW];rfl
theorem zjY (m:Nat):(ic0 m).toArray.all (·.oneCell')=true:=by rw[zlF];exact zfA _ _ _ _
theorem zpV:zI.toArray.all (·.oneCell')=true:=by rw[zI_ic];exact zfA _ _ _ _
theorem ri_1 (T g o n cap m:Nat) (hm:m<256) (r:List (BitVec 8)) (hn:r.length+1=n) (hc:n<=cap) (h28:28<=m) (w:World) (hT:Row w T mtab 95) (hr:w.rangeAt g (o+1) (vB r)) (c0:w.cell? ⟨g,o,none⟩=some (.int .u8 (m:Int))):Calls Tryz.prog 68 #[.slice (some ⟨T,0,none⟩) 28 28,.slice (some ⟨g,o,none⟩) n cap] w fun e w'=>e=.returned (.tuple #[.agg zI.toArray,.int .i64 0])/\Below w.heap.size w w':=by
 have HT:Hid (Row w T mtab 95):=hT
 have HR:Hid (w.rangeAt g (o+1) (vB r)):=hr
 have HN:Hid (r.length+1=n):=hn
 have HC:Hid (n<=cap):=hc
 have C0:Hid (w.cell? ⟨g,o,none⟩=some (.int .u8 (m:Int))):=c0
 have hn0:0<n:=by omega
 clear hT hr hn hc c0
 go_enter Tryz.func68,Tryz.ntmps68
 go_upto_region 1 with (refine zaX rfl rfl ?_;intro X1 (R1:Hid (Row X1 w.heap.size zI 97)) (B1:Hid (Below w.heap.size w X1)) (S1:Hid (X1.heap.size=w.heap.size+1));simp only[Act.put,jA,jB,jC])
 have c0:X1.cell? ⟨g,o,none⟩=some (.int .u8 (m:Int)):=zhU C0.out B1.out
 go_upto_region 2 with (first
  |(refine zaX rfl rfl ?_;intro X2 (R2:Hid (Row X2 X1.heap.size zI 97)) (B2:Hid (Below X1.heap.size X1 X2)) (S2:Hid (X2.heap.size=X1.heap.size+1));simp only[Act.put,jA,jB,jC])
  |(refine zaD rfl 97 (.tmp 6) (.tmp 14) rfl X1.heap.size (ic0 m) zI 97 rfl rfl R2.out rfl zeW (zjY m) ?_;intro X3 (E3:Hid (X3=_)) (R3:Hid (Row X3 X1.heap.size (ic0 m) 97));simp only[Act.put]))
 obtain⟨p,hp⟩:∃ p,p=X1.heap.size:=⟨_,rfl⟩
 obtain⟨q,hq⟩:∃ q,q=w.heap.size:=⟨_,rfl⟩
 have HQ:Hid (q=w.heap.size):=hq
 have HPQ:Hid (p=q+1):=by show _=_;rw[hp,hq];exact S1.out
 rw[<-hp] at R3 E3 R2 B2
 rw[<-hq] at R1
 rw[<-hp,<-hq]
 have hB:Below w.heap.size w X3:=by rw[E3.out];exact zaC (B1.out.trans (B2.out.mono (by rw[HPQ.out,HQ.out];omega))) (by rw[HPQ.out,HQ.out];omega) _
 have BB:Hid (Below w.heap.size w X3):=hB
 have RQ:Hid (Row X3 q zI 97):=by rw[E3.out];exact Row.setCells_other (Row.below R1.out B2.out (by rw[HPQ.out];omega)) _ _ _ (by rw[HPQ.out];omega)
 have RP:Hid (Row X3 p (ic m 0 0 0) 97):=by rw[<-zlF];exact R3.out
 have RT:Hid (Row X3 T mtab 95):=Row.below HT.out hB HT.out.lt
 have RR:Hid (X3.rangeAt g (o+1) (vB r)):=zaS HR.out hB
 clear hp hq hB E3 R3 R2 R1 B1 B2 S1 S2 c0 C0 HT HR
 have cp:=RP.out.cell 0 _ (ic_0 m 0 0 0)
 go_wp2_with (refine zaD rfl 97 (.tmp 4) (.tmp 20) rfl q zI zI 97 rfl rfl RQ.out rfl zeW zpV ?_;intro X9 (E9:Hid (X9=_)) (R9:Hid (Row X9 q zI 97));simp only[Act.put])
 have hE:Below w.heap.size w X9:=by rw[E9.out];exact zaC BB.out (by rw[HQ.out];exact Nat.le_refl _) _
 exact bodyPost_ret (zaO Tryz.results68 _ _ q 97 zI (.int .i64 0) rfl rfl R9.out Tryz.underlying97 zeW) rfl ⟨rfl,hE⟩
theorem ri_2 (T g o n cap m:Nat) (hm:m<256) (r:List (BitVec 8)) (hn:r.length+1=n) (hc:n<=cap) (h28:m<28) (hy:r.length<ow (zaZ m) r) (w:World) (hT:Row w T mtab 95) (hr:w.rangeAt g (o+1) (vB r)) (c0:w.cell? ⟨g,o,none⟩=some (.int .u8 (m:Int))):Calls Tryz.prog 68 #[.slice (some ⟨T,0,none⟩) 28 28,.slice (some ⟨g,o,none⟩) n cap] w fun e w'=>e=.returned (.tuple #[.agg zI.toArray,.int .i64 0])/\Below w.heap.size w w':=by
 have HY:Hid (r.length<ow (zaZ m) r):=hy
 clear hy
 have HT:Hid (Row w T mtab 95):=hT
 have HR:Hid (w.rangeAt g (o+1) (vB r)):=hr
 have HN:Hid (r.length+1=n):=hn
 have HC:Hid (n<=cap):=hc
 have C0:Hid (w.cell? ⟨g,o,none⟩=some (.int .u8 (m:Int))):=c0
 have hn0:0<n:=by omega
 clear hT hr hn hc c0
 go_enter Tryz.func68,Tryz.ntmps68
 go_upto_region 1 with (refine zaX rfl rfl ?_;intro X1 (R1:Hid (Row X1 w.heap.size zI 97)) (B1:Hid (Below w.heap.size w X1)) (S1:Hid (X1.heap.size=w.heap.size+1));simp only[Act.put,jA,jB,jC])
 have c0:X1.cell? ⟨g,o,none⟩=some (.int .u8 (m:Int)):=zhU C0.out B1.out
 go_upto_region 2 with (first
  |(refine zaX rfl rfl ?_;intro X2 (R2:Hid (Row X2 X1.heap.size zI 97)) (B2:Hid (Below X1.heap.size X1 X2)) (S2:Hid (X2.heap.size=X1.heap.size+1));simp only[Act.put,jA,jB,jC])
  |(refine zaD rfl 97 (.tmp 6) (.tmp 14) rfl X1.heap.size (ic0 m) zI 97 rfl rfl R2.out rfl zeW (zjY m) ?_;intro X3 (E3:Hid (X3=_)) (R3:Hid (Row X3 X1.heap.size (ic0 m) 97));simp only[Act.put]))
 obtain⟨p,hp⟩:∃ p,p=X1.heap.size:=⟨_,rfl⟩
 obtain⟨q,hq⟩:∃ q,q=w.heap.size:=⟨_,rfl⟩
 have HQ:Hid (q=w.heap.size):=hq
 have HPQ:Hid (p=q+1):=by show _=_;rw[hp,hq];exact S1.out
 rw[<-hp] at R3 E3 R2 B2
 rw[<-hq] at R1
 rw[<-hp,<-hq]
 have hB:Below w.heap.size w X3:=by rw[E3.out];exact zaC (B1.out.trans (B2.out.mono (by rw[HPQ.out,HQ.out];omega))) (by rw[HPQ.out,HQ.out];omega) _
 have BB:Hid (Below w.heap.size w X3):=hB
 have RQ:Hid (Row X3 q zI 97):=by rw[E3.out];exact Row.setCells_other (Row.below R1.out B2.out (by rw[HPQ.out];omega)) _ _ _ (by rw[HPQ.out];omega)
 have RP:Hid (Row X3 p (ic m 0 0 0) 97):=by rw[<-zlF];exact R3.out
 have RT:Hid (Row X3 T mtab 95):=Row.below HT.out hB HT.out.lt
 have RR:Hid (X3.rangeAt g (o+1) (vB r)):=zaS HR.out hB
 clear hp hq hB E3 R3 R2 R1 B1 B2 S1 S2 c0 C0 HT HR
 have cp:=RP.out.cell 0 _ (ic_0 m 0 0 0)
 obtain⟨k,hk⟩:∃ k,k=zaZ m:=⟨_,rfl⟩
 have HK:Hid (k<=5):=by show _<=_;rw[hk];exact znE m h28
 have ct:=RT.out.cell (m*6+1) _ (zgM m h28)
 rw[<-hk] at ct
 rw[<-hk] at HY
 clear hk
 obtain⟨A,hA⟩:∃ A:Addr,A=if cap=1 then ⟨g,o,none⟩ else ⟨g,o+1,none⟩:=⟨_,rfl⟩
 have HA:Hid (A=if cap=1 then ⟨g,o,none⟩ else ⟨g,o+1,none⟩):=hA
 have HS:Hid (SlAt X3 (.slice (some A) r.length (cap-1)) r):=by
  by_cases h0:r=[]
  ·exact .inl ⟨h0,_,_,by rw[h0];rfl⟩
  ·have:=List.length_pos_iff.2 h0
   have h1:=HN.out
   have h2:=HC.out
   rw[if_neg (by omega)] at hA
   exact .inr ⟨g,o+1,cap-1,by rw[hA],by omega,RR.out⟩
 have HN1:Hid (n-1=r.length):=by show _=_;have:=HN.out;omega
 clear hA
 go_upto_region 4 with fail
 go_quiet (fail)
 obtain⟨X4,h4⟩:∃ X4,X4=X3.drewN nq:=⟨_,rfl⟩
 rw[<-h4]
 replace BB:Hid (Below w.heap.size w X4):=by rw[h4];exact zbE BB.out _
 replace RQ:Hid (Row X4 q zI 97):=by rw[h4];exact RQ.out.drewN _
 replace RP:Hid (Row X4 p (ic m 0 0 0) 97):=by rw[h4];exact RP.out.drewN _
 replace HS:Hid (SlAt X4 (.slice (some A) r.length (cap-1)) r):=by rw[h4];exact HS.out
 obtain⟨l,hl⟩:∃ l,l=r.length:=⟨_,rfl⟩
 obtain⟨c1,hc1⟩:∃ c,c=cap-1:=⟨_,rfl⟩
 have HLC:Hid (l<=c1):=by show _<=_;rw[hl,hc1];have h1:=HN.out;have h2:=HC.out;omega
 rw[show (if cap=1 then some (⟨g,o,none⟩:Addr) else some ⟨g,o+1,none⟩)=some A by rw[HA.out];split <;> rfl,HN1.out,<-hl,<-hc1]
 rw[<-hl,<-hc1] at HS
 obtain⟨d,hd⟩:∃ d,d=ow k r:=⟨_,rfl⟩
 have HOW:Hid _:=zdG k HK.out (some A) l c1 r hl.symm X4 HS.out
 have HD:Hid (d=ow k r):=hd
 have HL:Hid (l=r.length):=hl
 rw[<-hd] at HOW
 clear h4 hc1 cp ct RT RR HN1 HA HN HC
 have hdl:l<d:=by rw[hl,hd];exact HY.out
 clear hd hl
 go_wp2_with (first|(go_at_call 88;refine Calls.mono HOW.out ?_;rintro e X5 ⟨rfl,hqq⟩;obtain rfl:=hqq.symm)|(refine zaD rfl 97 (.tmp 4) (.tmp 36) rfl q zI zI 97 rfl rfl RQ.out rfl zeW zpV ?_;intro X9 (E9:Hid (X9=_)) (R9:Hid (Row X9 q zI 97));simp only[Act.put]))
 have hE:Below w.heap.size w X9:=by rw[E9.out];exact zaC BB.out (by rw[HQ.out];exact Nat.le_refl _) _
 exact bodyPost_ret (zaO Tryz.results68 _ _ q 97 zI (.int .i64 0) rfl rfl R9.out Tryz.underlying97 zeW) rfl ⟨rfl,hE⟩
theorem ri_3 (T g o n cap m:Nat) (hm:m<256) (r:List (BitVec 8)) (hn:r.length+1=n) (hc:n<=cap) (h28:m<28) (hy:ow (zaZ m) r<=r.length) (hz:ro (zaZ m) (r.take (ow (zaZ m) r))=none) (w:World) (hT:Row w T mtab 95) (hr:w.rangeAt g (o+1) (vB r)) (c0:w.cell? ⟨g,o,none⟩=some (.int .u8 (m:Int))):Calls Tryz.prog 68 #[.slice (some ⟨T,0,none⟩) 28 28,.slice (some ⟨g,o,none⟩) n cap] w fun e w'=>e=.returned (.tuple #[.agg zI.toArray,.int .i64 0])/\Below w.heap.size w w':=by
 have HY:Hid (ow (zaZ m) r<=r.length/\ro (zaZ m) (r.take (ow (zaZ m) r))=none):=⟨hy,hz⟩
 clear hy hz
 have HT:Hid (Row w T mtab 95):=hT
 have HR:Hid (w.rangeAt g (o+1) (vB r)):=hr
 have HN:Hid (r.length+1=n):=hn
 have HC:Hid (n<=cap):=hc
 have C0:Hid (w.cell? ⟨g,o,none⟩=some (.int .u8 (m:Int))):=c0
 have hn0:0<n:=by omega
 clear hT hr hn hc c0
 go_enter Tryz.func68,Tryz.ntmps68
 go_upto_region 1 with (refine zaX rfl rfl ?_;intro X1 (R1:Hid (Row X1 w.heap.size zI 97)) (B1:Hid (Below w.heap.size w X1)) (S1:Hid (X1.heap.size=w.heap.size+1));simp only[Act.put,jA,jB,jC])
 have c0:X1.cell? ⟨g,o,none⟩=some (.int .u8 (m:Int)):=zhU C0.out B1.out
 go_upto_region 2 with (first
  |(refine zaX rfl rfl ?_;intro X2 (R2:Hid (Row X2 X1.heap.size zI 97)) (B2:Hid (Below X1.heap.size X1 X2)) (S2:Hid (X2.heap.size=X1.heap.size+1));simp only[Act.put,jA,jB,jC])
  |(refine zaD rfl 97 (.tmp 6) (.tmp 14) rfl X1.heap.size (ic0 m) zI 97 rfl rfl R2.out rfl zeW (zjY m) ?_;intro X3 (E3:Hid (X3=_)) (R3:Hid (Row X3 X1.heap.size (ic0 m) 97));simp only[Act.put]))
 obtain⟨p,hp⟩:∃ p,p=X1.heap.size:=⟨_,rfl⟩
 obtain⟨q,hq⟩:∃ q,q=w.heap.size:=⟨_,rfl⟩
 have HQ:Hid (q=w.heap.size):=hq
 have HPQ:Hid (p=q+1):=by show _=_;rw[hp,hq];exact S1.out
 rw[<-hp] at R3 E3 R2 B2
 rw[<-hq] at R1
 rw[<-hp,<-hq]
 have hB:Below w.heap.size w X3:=by rw[E3.out];exact zaC (B1.out.trans (B2.out.mono (by rw[HPQ.out,HQ.out];omega))) (by rw[HPQ.out,HQ.out];omega) _
 have BB:Hid (Below w.heap.size w X3):=hB
 have RQ:Hid (Row X3 q zI 97):=by rw[E3.out];exact Row.setCells_other (Row.below R1.out B2.out (by rw[HPQ.out];omega)) _ _ _ (by rw[HPQ.out];omega)
 have RP:Hid (Row X3 p (ic m 0 0 0) 97):=by rw[<-zlF];exact R3.out
 have RT:Hid (Row X3 T mtab 95):=Row.below HT.out hB HT.out.lt
 have RR:Hid (X3.rangeAt g (o+1) (vB r)):=zaS HR.out hB
 clear hp hq hB E3 R3 R2 R1 B1 B2 S1 S2 c0 C0 HT HR
 have cp:=RP.out.cell 0 _ (ic_0 m 0 0 0)
 obtain⟨k,hk⟩:∃ k,k=zaZ m:=⟨_,rfl⟩
 have HK:Hid (k<=5):=by show _<=_;rw[hk];exact znE m h28
 have ct:=RT.out.cell (m*6+1) _ (zgM m h28)
 rw[<-hk] at ct
 rw[<-hk] at HY
 clear hk
 obtain⟨A,hA⟩:∃ A:Addr,A=if cap=1 then ⟨g,o,none⟩ else ⟨g,o+1,none⟩:=⟨_,rfl⟩
 have HA:Hid (A=if cap=1 then ⟨g,o,none⟩ else ⟨g,o+1,none⟩):=hA
 have HS:Hid (SlAt X3 (.slice (some A) r.length (cap-1)) r):=by
  by_cases h0:r=[]
  ·exact .inl ⟨h0,_,_,by rw[h0];rfl⟩
  ·have:=List.length_pos_iff.2 h0
   have h1:=HN.out
   have h2:=HC.out
   rw[if_neg (by omega)] at hA
   exact .inr ⟨g,o+1,cap-1,by rw[hA],by omega,RR.out⟩
 have HN1:Hid (n-1=r.length):=by show _=_;have:=HN.out;omega
 clear hA
 go_upto_region 4 with fail
 go_quiet (fail)
 obtain⟨X4,h4⟩:∃ X4,X4=X3.drewN nq:=⟨_,rfl⟩
 rw[<-h4]
 replace BB:Hid (Below w.heap.size w X4):=by rw[h4];exact zbE BB.out _
 replace RQ:Hid (Row X4 q zI 97):=by rw[h4];exact RQ.out.drewN _
 replace RP:Hid (Row X4 p (ic m 0 0 0) 97):=by rw[h4];exact RP.out.drewN _
 replace HS:Hid (SlAt X4 (.slice (some A) r.length (cap-1)) r):=by rw[h4];exact HS.out
 obtain⟨l,hl⟩:∃ l,l=r.length:=⟨_,rfl⟩
 obtain⟨c1,hc1⟩:∃ c,c=cap-1:=⟨_,rfl⟩
 have HLC:Hid (l<=c1):=by show _<=_;rw[hl,hc1];have h1:=HN.out;have h2:=HC.out;omega
 rw[show (if cap=1 then some (⟨g,o,none⟩:Addr) else some ⟨g,o+1,none⟩)=some A by rw[HA.out];split <;> rfl,HN1.out,<-hl,<-hc1]
 rw[<-hl,<-hc1] at HS
 obtain⟨d,hd⟩:∃ d,d=ow k r:=⟨_,rfl⟩
 have HOW:Hid _:=zdG k HK.out (some A) l c1 r hl.symm X4 HS.out
 have HD:Hid (d=ow k r):=hd
 have HL:Hid (l=r.length):=hl
 rw[<-hd] at HOW
 clear h4 hc1 cp ct RT RR HN1 HA HN HC
 have hdl:d<=l:=by rw[hl,hd];exact HY.out.1
 have hdc:d<=c1:=Nat.le_trans hdl HLC.out
 have HTL:Hid ((r.take d).length=d):=by show _=_;rw[List.length_take,<-hl];omega
 have HTW:Hid (d=ow k (r.take d)):=ztP k r d hd (by rw[<-hl];exact hdl)
 have HTS:Hid (SlAt X4 (.slice (some A) d c1) (r.take d)):=HS.out.take' hl d hdl
 have HRO:Hid _:=zhG k p d c1 HK.out (some A) (r.take d) HTL.out HTW.out (by rw[hd];exact HY.out.2) X4 HTS.out
 clear hd hl HY
 go_wp2_with (first|(go_at_call 88;refine Calls.mono HOW.out ?_;rintro e X5 ⟨rfl,hqq⟩;obtain rfl:=hqq.symm)|(go_at_call 89;refine Calls.mono HRO.out ?_;rintro e X6 ⟨rfl,hqq⟩;obtain rfl:=hqq.symm)|(refine zaD rfl 97 (.tmp 4) (.tmp 43) rfl q zI zI 97 rfl rfl RQ.out rfl zeW zpV ?_;intro X9 (E9:Hid (X9=_)) (R9:Hid (Row X9 q zI 97));simp only[Act.put]))
 have hE:Below w.heap.size w X9:=by rw[E9.out];exact zaC BB.out (by rw[HQ.out];exact Nat.le_refl _) _
 exact bodyPost_ret (zaO Tryz.results68 _ _ q 97 zI (.int .i64 0) rfl rfl R9.out Tryz.underlying97 zeW) rfl ⟨rfl,hE⟩
theorem ri_4 (T g o n cap m:Nat) (hm:m<256) (r:List (BitVec 8)) (hn:r.length+1=n) (hc:n<=cap) (h28:m<28) (hy:ow (zaZ m) r<=r.length) (na nn:Nat) (hz:ro (zaZ m) (r.take (ow (zaZ m) r))=some (na,nn)) (w:World) (hT:Row w T mtab 95) (hr:w.rangeAt g (o+1) (vB r)) (c0:w.cell? ⟨g,o,none⟩=some (.int .u8 (m:Int))):Calls Tryz.prog 68 #[.slice (some ⟨T,0,none⟩) 28 28,.slice (some ⟨g,o,none⟩) n cap] w fun e w'=>e=.returned (.tuple #[.agg (ic m 0 na nn).toArray,.int .i64 ((1+ow (zaZ m) r:Nat):Int)])/\Below w.heap.size w w':=by
 have HY:Hid (ow (zaZ m) r<=r.length/\ro (zaZ m) (r.take (ow (zaZ m) r))=some (na,nn)):=⟨hy,hz⟩
 clear hy hz
 obtain⟨Y,hY⟩:∃ Y,Y=1+ow (zaZ m) r:=⟨_,rfl⟩
 have HYY:Hid (Y=1+ow (zaZ m) r):=hY
 rw[<-hY]
 clear hY
 have HT:Hid (Row w T mtab 95):=hT
 have HR:Hid (w.rangeAt g (o+1) (vB r)):=hr
 have HN:Hid (r.length+1=n):=hn
 have HC:Hid (n<=cap):=hc
 have C0:Hid (w.cell? ⟨g,o,none⟩=some (.int .u8 (m:Int))):=c0
 have hn0:0<n:=by omega
 clear hT hr hn hc c0
 go_enter Tryz.func68,Tryz.ntmps68
 go_upto_region 1 with (refine zaX rfl rfl ?_;intro X1 (R1:Hid (Row X1 w.heap.size zI 97)) (B1:Hid (Below w.heap.size w X1)) (S1:Hid (X1.heap.size=w.heap.size+1));simp only[Act.put,jA,jB,jC])
 have c0:X1.cell? ⟨g,o,none⟩=some (.int .u8 (m:Int)):=zhU C0.out B1.out
 go_upto_region 2 with (first
  |(refine zaX rfl rfl ?_;intro X2 (R2:Hid (Row X2 X1.heap.size zI 97)) (B2:Hid (Below X1.heap.size X1 X2)) (S2:Hid (X2.heap.size=X1.heap.size+1));simp only[Act.put,jA,jB,jC])
  |(refine zaD rfl 97 (.tmp 6) (.tmp 14) rfl X1.heap.size (ic0 m) zI 97 rfl rfl R2.out rfl zeW (zjY m) ?_;intro X3 (E3:Hid (X3=_)) (R3:Hid (Row X3 X1.heap.size (ic0 m) 97));simp only[Act.put]))
 obtain⟨p,hp⟩:∃ p,p=X1.heap.size:=⟨_,rfl⟩
 obtain⟨q,hq⟩:∃ q,q=w.heap.size:=⟨_,rfl⟩
 have HQ:Hid (q=w.heap.size):=hq
 have HPQ:Hid (p=q+1):=by show _=_;rw[hp,hq];exact S1.out
 rw[<-hp] at R3 E3 R2 B2
 rw[<-hq] at R1
 rw[<-hp,<-hq]
 have hB:Below w.heap.size w X3:=by rw[E3.out];exact zaC (B1.out.trans (B2.out.mono (by rw[HPQ.out,HQ.out];omega))) (by rw[HPQ.out,HQ.out];omega) _
 have BB:Hid (Below w.heap.size w X3):=hB
 have RQ:Hid (Row X3 q zI 97):=by rw[E3.out];exact Row.setCells_other (Row.below R1.out B2.out (by rw[HPQ.out];omega)) _ _ _ (by rw[HPQ.out];omega)
 have RP:Hid (Row X3 p (ic m 0 0 0) 97):=by rw[<-zlF];exact R3.out
 have RT:Hid (Row X3 T mtab 95):=Row.below HT.out hB HT.out.lt
 have RR:Hid (X3.rangeAt g (o+1) (vB r)):=zaS HR.out hB
 clear hp hq hB E3 R3 R2 R1 B1 B2 S1 S2 c0 C0 HT HR
 have cp:=RP.out.cell 0 _ (ic_0 m 0 0 0)
 obtain⟨k,hk⟩:∃ k,k=zaZ m:=⟨_,rfl⟩
 have HK:Hid (k<=5):=by show _<=_;rw[hk];exact znE m h28
 have ct:=RT.out.cell (m*6+1) _ (zgM m h28)
 rw[<-hk] at ct
 rw[<-hk] at HY HYY
 clear hk
 obtain⟨A,hA⟩:∃ A:Addr,A=if cap=1 then ⟨g,o,none⟩ else ⟨g,o+1,none⟩:=⟨_,rfl⟩
 have HA:Hid (A=if cap=1 then ⟨g,o,none⟩ else ⟨g,o+1,none⟩):=hA
 have HS:Hid (SlAt X3 (.slice (some A) r.length (cap-1)) r):=by
  by_cases h0:r=[]
  ·exact .inl ⟨h0,_,_,by rw[h0];rfl⟩
  ·have:=List.length_pos_iff.2 h0
   have h1:=HN.out
   have h2:=HC.out
   rw[if_neg (by omega)] at hA
   exact .inr ⟨g,o+1,cap-1,by rw[hA],by omega,RR.out⟩
 have HN1:Hid (n-1=r.length):=by show _=_;have:=HN.out;omega
 clear hA
 go_upto_region 4 with fail
 go_quiet (fail)
 obtain⟨X4,h4⟩:∃ X4,X4=X3.drewN nq:=⟨_,rfl⟩
 rw[<-h4]
 replace BB:Hid (Below w.heap.size w X4):=by rw[h4];exact zbE BB.out _
 replace RQ:Hid (Row X4 q zI 97):=by rw[h4];exact RQ.out.drewN _
 replace RP:Hid (Row X4 p (ic m 0 0 0) 97):=by rw[h4];exact RP.out.drewN _
 replace HS:Hid (SlAt X4 (.slice (some A) r.length (cap-1)) r):=by rw[h4];exact HS.out
 obtain⟨l,hl⟩:∃ l,l=r.length:=⟨_,rfl⟩
 obtain⟨c1,hc1⟩:∃ c,c=cap-1:=⟨_,rfl⟩
 have HLC:Hid (l<=c1):=by show _<=_;rw[hl,hc1];have h1:=HN.out;have h2:=HC.out;omega
 rw[show (if cap=1 then some (⟨g,o,none⟩:Addr) else some ⟨g,o+1,none⟩)=some A by rw[HA.out];split <;> rfl,HN1.out,<-hl,<-hc1]
 rw[<-hl,<-hc1] at HS
 obtain⟨d,hd⟩:∃ d,d=ow k r:=⟨_,rfl⟩
 have HOW:Hid _:=zdG k HK.out (some A) l c1 r hl.symm X4 HS.out
 have HD:Hid (d=ow k r):=hd
 have HL:Hid (l=r.length):=hl
 rw[<-hd] at HOW
 clear h4 hc1 cp ct RT RR HN1 HA HN HC
 have hdl:d<=l:=by rw[hl,hd];exact HY.out.1
 have hdc:d<=c1:=Nat.le_trans hdl HLC.out
 have HTL:Hid ((r.take d).length=d):=by show _=_;rw[List.length_take,<-hl];omega
 have HTW:Hid (d=ow k (r.take d)):=ztP k r d hd (by rw[<-hl];exact hdl)
 have HTS:Hid (SlAt X4 (.slice (some A) d c1) (r.take d)):=HS.out.take' hl d hdl
 have HRO:Hid _:=zhH k p d c1 m 0 na nn HK.out (some A) (r.take d) HTL.out HTW.out (by rw[hd];exact HY.out.2) X4 HTS.out RP.out
 rw[<-hd] at HYY
 obtain⟨L,hL⟩:∃ L,L=ic m 0 na nn:=⟨_,rfl⟩
 rw[<-hL] at HRO
 have HLL:Hid (L=ic m 0 na nn):=hL
 have HI:Hid ((Tryz.prog.info? 97).map (·.size)=some L.length):=by show _=_;rw[hL];exact zcQ _ _ _ _
 have HN7:Hid (L.length=zI.length):=by show _=_;rw[hL];exact zdD _ _ _ _
 have HO:Hid (L.toArray.all (·.oneCell')=true):=by show _=_;rw[hL];exact zfA _ _ _ _
 have d33:d<=256:=by rw[hd];exact ow_le k r
 have hqp:¬ q=p:=by rw[HPQ.out];omega
 clear hd hl HY hL
 go_wp2_with (first
  |(go_at_call 88;refine Calls.mono HOW.out ?_;rintro e X5 ⟨rfl,hqq⟩;obtain rfl:=hqq.symm)
  |(go_at_call 89;refine Calls.mono HRO.out ?_;rintro e X6 ⟨rfl,qr,qg⟩;have R6:Hid (Row X6 p L 97):=qr;have RQ6:Hid (Row X6 q zI 97):=qg.row RQ.out hqp;have B6:Hid (Below w.heap.size w X6):=BB.out.trans (qg.to_below BB.out.size (fun k e=>by rw[e,HPQ.out,HQ.out];omega));clear qr qg)
  |(refine zaG rfl 97 (.tmp 6) rfl p 0 rfl L _ R6.out.all Tryz.underlying97 rfl HI.out ?_;simp only[Act.put,jA,jB,jC])
  |(refine zaD rfl 97 (.tmp 4) (.tmp 44) rfl q L zI 97 rfl rfl RQ6.out HN7.out HI.out HO.out ?_;intro X9 (E9:Hid (X9=_)) (R9:Hid (Row X9 q L 97));simp only[Act.put]))
 have hE:Below w.heap.size w X9:=by rw[E9.out];exact zaC B6.out (by rw[HQ.out];exact Nat.le_refl _) _
 have hY:(1:Int)+(d:Int)=(Y:Int):=by rw[HYY.out];omega
 exact bodyPost_ret (zaO Tryz.results68 _ _ q 97 L (.int .i64 (Y:Int)) rfl (by rw[<-hY];rfl) R9.out Tryz.underlying97 HI.out) rfl ⟨by rw[HLL.out],hE⟩
def ri (b:List (BitVec 8)):Option (Nat × Nat × Nat × Nat):=match b with
 |[]=>none
 |x :: r=>if 28<=x.toNat then none else if r.length<ow (zaZ x.toNat) r then none else
  match ro (zaZ x.toNat) (r.take (ow (zaZ x.toNat) r)) with
  |none=>none
  |some (a,n)=>some (x.toNat,a,n,1+ow (zaZ x.toNat) r)
theorem zfW {b:List (BitVec 8)} {c a n s:Nat} (h:ri b=some (c,a,n,s)):c<28/\1<=s/\s<=257/\s<=b.length:=by
 cases b with
 |nil=>cases h
 |cons x r=>
  unfold ri at h
  simp only at h
  split at h
  ·cases h
  ·split at h
   ·cases h
   ·split at h
    ·cases h
    ·rename_i h1 h2 _ _ _ _
     simp only[Option.some.injEq,Prod.mk.injEq] at h
     obtain⟨rfl,_,_,rfl⟩:=h
     have:=ow_le (zaZ x.toNat) r
     rw[List.length_cons]
     omega
theorem zeZ {w:World} {g o:Nat} {x:BitVec 8} {r:List (BitVec 8)} (h:w.rangeAt g o (vB (x :: r))):w.cell? ⟨g,o,none⟩=some (.int .u8 ((x.toNat:Nat):Int)):=h 0 _ rfl
theorem zgD {w:World} {g o:Nat} {x:BitVec 8} {r:List (BitVec 8)} (h:w.rangeAt g o (vB (x :: r))):w.rangeAt g (o+1) (vB r):=fun j v hj=>by
 have:=h (j+1) v hj
 rwa [show o+(j+1)=o+1+j by omega] at this
theorem zqW (T g o n cap:Nat) (b:List (BitVec 8)) (hn:b.length=n) (hc:n<=cap) (c a m s:Nat) (h:ri b=some (c,a,m,s)) (w:World) (hT:Row w T mtab 95) (hr:w.rangeAt g o (vB b)):Calls Tryz.prog 68 #[.slice (some ⟨T,0,none⟩) 28 28,.slice (some ⟨g,o,none⟩) n cap] w fun e w'=>e=.returned (.tuple #[.agg (ic c 0 a m).toArray,.int .i64 (s:Int)])/\Below w.heap.size w w':=by
 cases b with
 |nil=>cases h
 |cons x r=>
  unfold ri at h
  simp only at h
  split at h
  ·cases h
  ·split at h
   ·cases h
   ·split at h
    ·cases h
    ·rename_i h1 h2 _ _ _ h3
     simp only[Option.some.injEq,Prod.mk.injEq] at h
     obtain⟨rfl,rfl,rfl,rfl⟩:=h
     exact ri_4 T g o n cap _ x.isLt r hn hc (by omega) (by omega) _ _ h3 w hT (zgD hr) (zeZ hr)
theorem zqV (T g o n cap:Nat) (b:List (BitVec 8)) (hn:b.length=n) (h0:0<n) (hc:n<=cap) (h:ri b=none) (w:World) (hT:Row w T mtab 95) (hr:w.rangeAt g o (vB b)):Calls Tryz.prog 68 #[.slice (some ⟨T,0,none⟩) 28 28,.slice (some ⟨g,o,none⟩) n cap] w fun e w'=>e=.returned (.tuple #[.agg zI.toArray,.int .i64 0])/\Below w.heap.size w w':=by
 cases b with
 |nil=>simp at hn;omega
 |cons x r=>
  unfold ri at h
  simp only at h
  split at h
  ·rename_i h1
   exact ri_1 T g o n cap _ x.isLt r hn hc h1 w hT (zgD hr) (zeZ hr)
  ·split at h
   ·rename_i h1 h2
    exact ri_2 T g o n cap _ x.isLt r hn hc (by omega) h2 w hT (zgD hr) (zeZ hr)
   ·split at h
    ·rename_i h1 h2 h3
     exact ri_3 T g o n cap _ x.isLt r hn hc (by omega) (by omega) h3 w hT (zgD hr) (zeZ hr)
    ·cases h
abbrev Lw (w:World) (e:TypeId) (s:Nat) (v:Value) (n:Nat) (xs:List Value):Prop:=w.ownsRow 0 e s v n xs
section
variable {w w':World} {v:Value} {e:TypeId} {s n:Nat} {xs:List Value}
theorem Lw.lt (h:Lw w e s v n xs):∀ g,v.ownBlock=some g->g<w.heap.size:=fun g e=>(World.ownsRow.lt h g e).2
theorem Lw.block (h:Lw w e s v n xs) (k:∀ g,v.ownBlock=some g->w'.heap[g]?=w.heap[g]?):Lw w' e s v n xs:=by
 obtain⟨h1,h2⟩:=h
 refine⟨h1,?_⟩
 rcases h2 with h2|⟨g,cap,cur,hv,hg,hh,r⟩
 ·exact .inl h2
 ·exact .inr ⟨g,cap,cur,hv,hg,(k g (by rw[hv];rfl)).trans hh,r⟩
theorem Lw.be (h:Lw w e s v n xs) (k:Below w.heap.size w w'):Lw w' e s v n xs:=Lw.block h fun g e=>k.block g (Lw.lt h g e)
theorem Lw.gro {R:Nat->Prop} (h:Lw w e s v n xs) (k:Gro R w w') (hR:∀ g,v.ownBlock=some g->¬ R g):Lw w' e s v n xs:=Lw.block h fun g e=>k.block g (Lw.lt h g e) (hR g e)
theorem Lw.ne {b:Nat} {cs:List Value} {t:TypeId} (h:Lw w e s v n xs) (r:Row w b cs t) (ht:t≠e):∀ g,v.ownBlock=some g->g≠b:=fun g e q=>by
 subst q
 obtain⟨_,h2⟩:=h
 rcases h2 with ⟨h2,_⟩|⟨g',cap,cur,hv,hg,hh,_⟩
 ·rw[h2] at e;cases e
 ·rw[hv] at e
  obtain rfl:g'=g:=by simpa [Value.ownBlock] using e
  have:=hh.symm.trans r
  simp only[Option.some.injEq,Obj.cells.injEq] at this
  exact ht this.2.1.symm
theorem Lw.nil (w:World) (e:TypeId) (s:Nat):Lw w e s (.slice none 0 0) 0 []:=⟨by simp,.inl ⟨rfl,rfl⟩⟩
theorem Lw.form (h:Lw w e s v n xs):∃ A cap,v=.slice A n cap/\n<=cap/\(A=none->cap=0):=by
 obtain⟨_,h2⟩:=h
 rcases h2 with ⟨h2,h3⟩|⟨g,cap,cur,hv,hg,hh,hc,_⟩
 ·exact⟨none,0,by rw[h2,h3],by rw[h3];exact Nat.le_refl _,fun _=>rfl⟩
 ·exact⟨_,cap,hv,hc,fun q=>by cases q⟩
theorem Lw.len (h:Lw w e s v n xs):xs.length=n*s:=h.1
theorem Lw.open (h:Lw w e s v n xs) (hn:0<n):∃ g cap,v=.slice (some ⟨g,0,none⟩) n cap/\n<=cap:=by
 obtain⟨_,h2⟩:=h
 rcases h2 with ⟨h2,h3⟩|⟨g,cap,cur,hv,hg,hh,hc,_⟩
 ·omega
 ·exact⟨g,cap,hv,hc⟩
theorem Lw.range {g cap:Nat} (h:Lw w e s (.slice (some ⟨g,0,none⟩) n cap) n xs):w.rangeAt g 0 xs:=fun j u hj=>by
 have hlt:j<n*s:=by have:=(List.getElem?_eq_some_iff.1 hj).1;rwa [Lw.len h] at this
 rw[Nat.zero_add]
 exact (World.ownsRow.cellAt h j hlt).trans hj
end
section
variable {Q:Exit->Act->World->Prop} {o:Oper} {a:Act} {w:World} {K:Act->World->Prop}
theorem zkU (t e:TypeId) (sz bt:Nat) (hu:Tryz.prog.underlying t=some (.slice e)) (hi:∃ ie z,Tryz.prog.info? e=some ie/\ie.zero=some z/\ie.size=sz/\ie.bytes=bt/\z.cells.size=sz) (h0:0<sz) (hb0:bt<=4096) (s x:Operand) (ho:o.op=.call { callee:=.builtin .append,args:=#[s,x],argTypes:=#[t,t] }) (v:Value) (n:Nat) (l news:List Value) (hs:a.eval s=v) (hown:Lw w e sz v n l)
 (g2:Nat) (hm:news.length=sz) (hx:a.eval x=.slice (some ⟨g2,0,none⟩) 1 1) (hX:w.rangeAt g2 0 news) (h1:∀ v ∈ news,v.oneCell'=true) (hk:n<=1000000)
 (h:∀ v' w',Lw w' e sz v' (n+1) (l++news)->w.grownBy w' v.ownBlock->(v'.ownBlock=v.ownBlock\/v'.ownBlock=some w.heap.size)->K (a.put o.dst v') w'):Oper.wp Tryz.prog o a w K Q:=by
 obtain⟨ie,z,i1,i2,i3,i5,i4⟩:=hi
 obtain⟨v',w',hr,q2,q3,_,q5⟩:=run_append_own_at (P:=Tryz.prog) w 0 t o.type e ie z sz bt hu i1 i2 i3 i5 i4 h0 v n l hown ⟨g2,0,none⟩ 1 1 news (by rw[hm,Nat.one_mul]) (fun j u hj=>by rw[Addr.add_mid];exact hX j u hj) h1 (by unfold maxLen;omega) (by
  have:bt*(n+1)<=4096*1000001:=Nat.mul_le_mul hb0 (by omega)
  rw[Nat.mul_comm] at this
  omega) (Nat.zero_le _)
 unfold Oper.wp execOp
 simp only[ho,resolve,invoke,builtin,Sem.run_bind,Sem.run_pure,Result.andThen_ok,List.map_toArray,List.map_cons,List.map_nil,hs,hx,hr]
 exact h v' w' q2 q3 q5
end
theorem zoI (s:Nat) (hs:0<s) (c cells:Array Value) (hc:c.size=s) (hn:cells.size=s):Instr.fill (fun i=>some (i*s,s)) cells [(0,.agg c)]=some c:=by
 obtain⟨r,hr,hsz,hk⟩:=Great.fill_dense (s:=s) hs [.agg c] 0 cells (fun v hv=>by obtain rfl:=List.mem_singleton.1 hv;exact hc) (by simp;omega)
 have hr':Instr.fill (fun i=>some (i*s,s)) cells [(0,.agg c)]=some r:=hr
 rw[hr']
 congr 1
 apply Array.ext_getElem?
 intro k
 rw[hk k]
 by_cases hlt:k<s
 ·rw[if_pos (by simp;omega),Nat.div_eq_of_lt hlt,Nat.mod_eq_of_lt hlt]
  rfl
 ·rw[if_neg (by simp;omega),Array.getElem?_eq_none (by omega),Array.getElem?_eq_none (by omega)]
structure Ins where
 c:Nat
 p:Nat
 a:Nat
 n:Nat
def fl (ls:List Ins):List Value:=ls.flatMap fun i=>ic i.c i.p i.a i.n
theorem fl_app (ls:List Ins) (x:Ins):fl (ls++[x])=fl ls++ic x.c x.p x.a x.n:=by
 unfold fl
 rw[List.flatMap_append]
 simp
theorem fl_get (ls:List Ins) (i:Nat) (x:Ins) (h:ls[i]?=some x) (j:Nat) (hj:j<7):(fl ls)[i*7+j]?=(ic x.c x.p x.a x.n)[j]?:=by
 induction ls generalizing i with
 |nil=>cases h
 |cons y r ih=>
  have e:fl (y :: r)=ic y.c y.p y.a y.n++fl r:=rfl
  rw[e]
  cases i with
  |zero=>
   obtain rfl:y=x:=by simpa using h
   rw[List.getElem?_append_left (by rw[zdD];omega),Nat.zero_mul,Nat.zero_add]
  |succ k=>
   rw[List.getElem?_append_right (by rw[zdD];omega),zdD,show (k+1)*7+j-7=k*7+j by omega]
   exact ih k (by simpa using h)
theorem zqK {w:World} {g:Nat} {ls:List Ins} (h:w.rangeAt g 0 (fl ls)) (i:Nat) (x:Ins) (hx:ls[i]?=some x):w.rangeAt g (i*7) (ic x.c x.p x.a x.n):=fun j v hj=>by
 have hlt:j<7:=by have:=(List.getElem?_eq_some_iff.1 hj).1;rwa [zdD] at this
 have:=h (i*7+j) v (by rw[fl_get ls i x hx j hlt];exact hj)
 rwa [Nat.zero_add] at this
def stf (ls:List Ins) (i:Nat):Nat:=match ls.findIdx? (fun x=>x.p==i) with|some k=>k+1|none=>0
def sts (ls:List Ins) (n:Nat):List Nat:=(List.range n).map (stf ls)
theorem zuS (ls:List Ins) (n:Nat):(sts ls n).length=n:=by unfold sts;simp
theorem sts_get (ls:List Ins) (n i:Nat) (h:i<n):(sts ls n).getD i 0=stf ls i:=by
 unfold sts
 rw[List.getD_eq_getElem?_getD,List.getElem?_map,List.getElem?_range h]
 rfl
theorem sts_nil (n:Nat):sts [] n=List.replicate n 0:=by
 unfold sts
 apply List.ext_getElem?
 intro i
 rw[List.getElem?_map,List.getElem?_replicate]
 by_cases h:i<n
 ·rw[List.getElem?_range h,if_pos h];rfl
 ·rw[List.getElem?_eq_none (by simp;omega),if_neg h];rfl
theorem znM (ls:List Ins) (i:Nat):stf ls i≠0 ↔ ls.any (fun j=>j.p==i)=true:=by
 unfold stf
 cases h:ls.findIdx? (fun x=>x.p==i) with
 |none=>
  rw[List.findIdx?_eq_none_iff] at h
  simp only[ne_eq,not_true_eq_false,false_iff,List.any_eq_true,not_exists,not_and]
  intro x hx q
  rw[h x hx] at q
  cases q
 |some k=>
  simp only[ne_eq,Nat.add_eq_zero_iff,Nat.one_ne_zero,and_false,not_false_eq_true,true_iff]
  obtain⟨hk,h2,_⟩:=List.findIdx?_eq_some_iff_getElem.1 h
  exact List.any_eq_true.2 ⟨ls[k],List.getElem_mem hk,h2⟩
theorem stf_le (ls:List Ins) (i:Nat):stf ls i<=ls.length:=by
 unfold stf
 cases h:ls.findIdx? (fun x=>x.p==i) with
 |none=>exact Nat.zero_le _
 |some k=>obtain⟨hk,_⟩:=List.findIdx?_eq_some_iff_getElem.1 h;exact hk
theorem stf_app (ls:List Ins) (x:Ins) (hp:∀ y ∈ ls,y.p<x.p) (i:Nat):stf (ls++[x]) i=if i=x.p then ls.length+1 else stf ls i:=by
 unfold stf
 rw[List.findIdx?_append]
 by_cases hi:i=x.p
 ·rw[if_pos hi]
  have h0:ls.findIdx? (fun y=>y.p==i)=none:=by
   rw[List.findIdx?_eq_none_iff]
   intro y hy
   have:=hp y hy
   simp only[beq_eq_false_iff_ne,ne_eq]
   omega
  rw[h0]
  simp [List.findIdx?_cons,hi]
 ·rw[if_neg hi]
  cases h:ls.findIdx? (fun y=>y.p==i) with
  |some k=>rfl
  |none=>simp [List.findIdx?_cons,Ne.symm hi]
theorem sts_app (ls:List Ins) (x:Ins) (hp:∀ y ∈ ls,y.p<x.p) (n:Nat):(sts ls n).set x.p (ls.length+1)=sts (ls++[x]) n:=by
 apply List.ext_getElem?
 intro i
 unfold sts
 rw[List.getElem?_set,List.getElem?_map,List.getElem?_map]
 by_cases hi:i<n
 ·rw[List.getElem?_range hi]
  simp only[Option.map_some,List.length_map,List.length_range]
  rw[stf_app ls x hp i]
  by_cases e:x.p=i
  ·rw[if_pos e,if_pos (by omega),if_pos e.symm]
  ·rw[if_neg e,if_neg (fun q=>e q.symm)]
 ·rw[List.getElem?_eq_none (l:=List.range n) (by simp;omega)]
  simp only[Option.map_none,List.length_map,List.length_range]
  split
  ·rw[if_neg (by omega)]
  ·rfl
def zhD (ls:List Ins):Bool:=ls.all fun i=>zaZ i.c != 5 || ls.any (fun j=>j.p==i.n)
theorem zcC:(Tryz.prog.info? 72).map (·.size)=some 2:=by kernel_rfl
theorem zrL (v:Value) (gs n m:Nat) (hm:n<=m) (w:World):Calls Tryz.prog 90 #[.agg #[v,.slice (some ⟨gs,0,none⟩) n n],.int .i64 (m:Int)] w fun e w'=>e=.returned (.bool false)/\Below w.heap.size w w':=by
 have hnm:¬ ((m:Int)<(n:Int)):=by omega
 go_enter Tryz.func90,Tryz.ntmps90
 go_upto_region 1 with (refine zaF 72 rfl (.tmp 0) rfl [v,.slice (some ⟨gs,0,none⟩) n n] rfl ?_;intro X (R1:Hid (Row X w.heap.size [v,.slice (some ⟨gs,0,none⟩) n n] 72)) (B1:Hid (Below w.heap.size w X)) q3;clear q3;simp only[Act.put,jA,jB,jC])
 have c1:=R1.out.cell 1 _ rfl
 go_wp2
 go_ret
 exact⟨rfl,B1.out⟩
theorem zpY (v:Value) (gs n m x:Nat) (hm:m<n) (B:Bool) (hB:B=decide (x≠0)) (w:World) (c0:w.cell? ⟨gs,m,none⟩=some (.int .i64 (x:Int))):Calls Tryz.prog 90 #[.agg #[v,.slice (some ⟨gs,0,none⟩) n n],.int .i64 (m:Int)] w fun e w'=>e=.returned (.bool B)/\Below w.heap.size w w':=by
 have C0:Hid (w.cell? ⟨gs,m,none⟩=some (.int .i64 (x:Int))):=c0
 have HB:Hid (B=decide (x≠0)):=hB
 clear c0 hB
 go_enter Tryz.func90,Tryz.ntmps90
 go_upto_region 1 with (refine zaF 72 rfl (.tmp 0) rfl [v,.slice (some ⟨gs,0,none⟩) n n] rfl ?_;intro X (R1:Hid (Row X w.heap.size [v,.slice (some ⟨gs,0,none⟩) n n] 72)) (B1:Hid (Below w.heap.size w X)) q3;clear q3;simp only[Act.put,jA,jB,jC])
 have c1:=R1.out.cell 1 _ rfl
 have c2:X.cell? ⟨gs,m,none⟩=some (.int .i64 (x:Int)):=zhU C0.out B1.out
 by_cases hx:x=0
 ·have eB:B=false:=by rw[HB.out,hx];rfl
  subst hx
  go_wp2
  go_ret
  exact⟨by rw[eB];rfl,B1.out⟩
 ·have eB:B=true:=by rw[HB.out];exact decide_eq_true hx
  have ex:((x:Int) != 0)=true:=by simp;omega
  go_wp2
  go_ret
  exact⟨by rw[eB];rfl,B1.out⟩
theorem zpX (v:Value) (gs n m:Nat) (ls:List Ins) (hls:∀ y ∈ ls,y.p<n) (w:World) (hs:Row w gs (vI (sts ls n)) 3):Calls Tryz.prog 90 #[.agg #[v,.slice (some ⟨gs,0,none⟩) n n],.int .i64 (m:Int)] w fun e w'=>e=.returned (.bool (ls.any (fun j=>j.p==m)))/\Below w.heap.size w w':=by
 by_cases h:m<n
 ·have c0:=hs.cell m _ (zfH (sts ls n) m (by rw[zuS];exact h))
  rw[sts_get ls n m h] at c0
  refine zpY v gs n m _ h _ ?_ w c0
  have:=znM ls m
  cases ha:ls.any (fun j=>j.p==m) with
  |true=>exact (decide_eq_true (this.2 ha)).symm
  |false=>exact (decide_eq_false (fun q=>by rw[this.1 q] at ha;cases ha)).symm
 ·have ha:ls.any (fun j=>j.p==m)=false:=by
   rw[List.any_eq_false]
   intro y hy
   have:=hls y hy
   simp only[beq_iff_eq]
   omega
  rw[ha]
  exact zrL v gs n m (by omega) w
theorem zlJ {ls:List Ins} {t:Nat} {x:Ins} (hx:ls[t]?=some x) (h5:zaZ x.c=5) (hn:ls.any (fun j=>j.p==x.n)=false):zhD ls=false:=by
 unfold zhD
 rw[List.all_eq_false]
 refine⟨x,List.mem_of_getElem? hx,?_⟩
 rw[hn,h5]
 decide
def zqP (ls:List Ins) (t:Nat):Bool:=(ls.take t).all fun i=>zaZ i.c != 5 || ls.any (fun j=>j.p==i.n)
theorem zgK {ls:List Ins} {t:Nat} {x:Ins} (hx:ls[t]?=some x) (h:zqP ls t=true) (hy:zaZ x.c≠5\/ls.any (fun j=>j.p==x.n)=true):zqP ls (t+1)=true:=by
 unfold zqP at h ⊢
 rw[List.take_add_one,hx,List.all_append,h]
 simp only[Option.toList_some,List.all_cons,List.all_nil,Bool.and_true,Bool.true_and]
 rcases hy with q|q
 ·rw[show (zaZ x.c != 5)=true by simpa using q];rfl
 ·rw[q];simp
theorem zoT {ls:List Ins} (h:zqP ls ls.length=true):zhD ls=true:=by
 unfold zqP at h
 rw[List.take_length] at h
 exact h
theorem zkA (T gs n:Nat) (ls:List Ins) (v:Value) (hls:∀ y ∈ ls,y.p<n/\y.c<28/\y.n<65536) (hlen:ls.length<=1024) (w:World) (hT:Row w T mtab 95) (hv:Lw w 97 7 v ls.length (fl ls)) (hs:Row w gs (vI (sts ls n)) 3):Calls Tryz.prog 69 #[.agg #[v,.slice (some ⟨gs,0,none⟩) n n],.slice (some ⟨T,0,none⟩) 28 28] w fun e w'=>e=.returned (.bool (zhD ls))/\Below w.heap.size w w':=by
 obtain⟨A,cap,rfl,hcap,hA⟩:=Lw.form hv
 have HV:Hid (Lw w 97 7 (.slice A ls.length cap) ls.length (fl ls)):=hv
 have HT:Hid (Row w T mtab 95):=hT
 have HST:Hid (Row w gs (vI (sts ls n)) 3):=hs
 have HLS:Hid (∀ y ∈ ls,y.p<n/\y.c<28/\y.n<65536):=hls
 clear hv hT hs hls hcap hA
 go_enter Tryz.func69,Tryz.ntmps69
 go_wp2_with (refine zaF 72 rfl (.tmp 0) rfl [.slice A ls.length cap,.slice (some ⟨gs,0,none⟩) n n] rfl ?_;intro X q1 q2 q3;have R1:Hid (Row X w.heap.size [.slice A ls.length cap,.slice (some ⟨gs,0,none⟩) n n] 72):=q1;have B1:Hid (Below w.heap.size w X):=q2;have c0:=q1.cell 0 _ rfl;clear q1 q2 q3;simp only[Act.put,jA,jB,jC])
 go_loopw [10] (fun v wr=>∃ t:Nat,t<=ls.length/\v=.int .i64 (t:Int)/\Hid (Below w.heap.size w wr)/\Hid (Row wr w.heap.size [.slice A ls.length cap,.slice (some ⟨gs,0,none⟩) n n] 72)/\Hid (zqP ls t=true)) (fun v _=>ls.length-(intOf v).toNat)
 case atStart=>exact⟨0,Nat.zero_le _,rfl,B1,R1,by show _=_;unfold zqP;simp⟩
 case round=>
  obtain⟨t,ht,rfl,HB,HBX,HLD⟩:=hrel
  clear B1 R1 c0
  by_cases hlt:t<ls.length
  ·obtain⟨x,hx⟩:∃ x,ls[t]?=some x:=⟨_,List.getElem?_eq_getElem hlt⟩
   have hxm:=HLS.out x (List.mem_of_getElem? hx)
   have hxc:x.c<28:=hxm.2.1
   have HX:Hid (ls[t]?=some x):=hx
   obtain⟨g,cap',e,hcc⟩:=Lw.open HV.out (by omega)
   simp only[Value.slice.injEq] at e
   obtain⟨rfl,_,rfl⟩:=e
   obtain⟨L,hL⟩:∃ L,L=ic x.c x.p x.a x.n:=⟨_,rfl⟩
   have HL:Hid (L=ic x.c x.p x.a x.n):=hL
   have RG:Hid (wr.rangeAt g (t*7) L):=by rw[hL];exact zaS (zqK (Lw.range HV.out) t x hx) HB.out
   have HI:Hid ((Tryz.prog.info? 97).map (·.size)=some L.length):=by show _=_;rw[hL];exact zcQ _ _ _ _
   have HN7:Hid (L.length=zI.length):=by show _=_;rw[hL];exact zdD _ _ _ _
   have HO:Hid (L.toArray.all (·.oneCell')=true):=by show _=_;rw[hL];exact zfA _ _ _ _
   have HXN6:Hid (x.n<65536):=hxm.2.2
   clear hL hx hxm hcc
   go_upto_region 4 with (first
    |(refine zaG rfl 97 (.tmp 12) rfl g (t*7) rfl L _ RG.out Tryz.underlying97 rfl HI.out ?_;simp only[Act.put,jA,jB,jC])
    |(refine zaX rfl rfl ?_;intro X2 (R2:Hid (Row X2 wr.heap.size zI 97)) (B2:Hid (Below wr.heap.size wr X2)) q3;clear q3;simp only[Act.put,jA,jB,jC])
    |(refine zaD rfl 97 (.tmp 6) (.tmp 13) rfl wr.heap.size L zI 97 rfl rfl R2.out HN7.out HI.out HO.out ?_;intro X3 (E3:Hid (X3=_)) (R3:Hid (Row X3 wr.heap.size L 97));simp only[Act.put]))
   have BB3:Below w.heap.size w X3:=by rw[E3.out];exact zaC (HB.out.trans (B2.out.mono HB.out.size)) HB.out.size _
   have BX:Hid (Below w.heap.size w X3):=BB3
   have RB3:Hid (Row X3 w.heap.size [.slice (some ⟨g,0,none⟩) ls.length cap,.slice (some ⟨gs,0,none⟩) n n] 72):=by rw[E3.out];exact Row.setCells_other (Row.below HBX.out B2.out HBX.out.lt) _ _ _ (Nat.ne_of_lt HBX.out.lt)
   have RS3:Hid (Row X3 gs (vI (sts ls n)) 3):=Row.below HST.out BB3 HST.out.lt
   have R3':Row X3 wr.heap.size (ic x.c x.p x.a x.n) 97:=by rw[<-HL.out];exact R3.out
   have c0:=R3'.cell 0 _ (ic_0 _ _ _ _)
   have c6:=R3'.cell 6 _ (zsZ _ _ _ _)
   have ct:=(Row.below HT.out BB3 HT.out.lt).cell (x.c*6+1) _ (zgM x.c hxc)
   have hx28:x.c<28:=hxc
   obtain⟨k,hk⟩:∃ k,k=zaZ x.c:=⟨_,rfl⟩
   rw[<-hk] at ct
   obtain⟨xc,hxc'⟩:∃ xc,xc=x.c:=⟨_,rfl⟩
   obtain⟨xn,hxn'⟩:∃ xn,xn=x.n:=⟨_,rfl⟩
   rw[<-hxc'] at c0 ct hx28
   rw[<-hxn'] at c6
   have HK:Hid (k=zaZ x.c):=hk
   have HXN:Hid (xn=x.n):=hxn'
   clear hk hxc' hxn' R3' BB3 R3 E3 R2 B2 hxc
   by_cases k5:k=5
   ·have HBG:Hid _:=zpX (.slice (some ⟨g,0,none⟩) ls.length cap) gs n xn ls (fun y hy=>(HLS.out y hy).1) X3 RS3.out
    cases hany:ls.any (fun j=>j.p==xn) with
    |true=>
     rw[hany] at HBG
     have HD:Hid (zqP ls (t+1)=true):=zgK HX.out HLD.out (.inr (by rw[<-HXN.out];exact hany))
     subst k5
     clear hany
     go_wp2_with (first
      |(refine zaG rfl 72 (.tmp 2) rfl w.heap.size 0 rfl [.slice (some ⟨g,0,none⟩) ls.length cap,.slice (some ⟨gs,0,none⟩) n n] _ RB3.out.all Tryz.underlying72 rfl zcC ?_;simp only[Act.put,jA,jB,jC])
      |(go_at_call 90;refine Calls.mono HBG.out ?_;rintro e X4 ⟨rfl,q⟩;have B4:Hid (Below w.heap.size w X4):=BX.out.trans (q.mono BX.out.size);have RB4:Hid (Row X4 w.heap.size [.slice (some ⟨g,0,none⟩) ls.length cap,.slice (some ⟨gs,0,none⟩) n n] 72):=Row.below RB3.out q RB3.out.lt;clear q))
     refine⟨⟨t+1,hlt,by go_num,B4,RB4,HD⟩,by simp [intOf];omega⟩
    |false=>
     rw[hany] at HBG
     have HD:Hid (zhD ls=false):=zlJ HX.out (by rw[<-HK.out];exact k5) (by rw[<-HXN.out];exact hany)
     subst k5
     clear hany
     go_wp2_with (first
      |(refine zaG rfl 72 (.tmp 2) rfl w.heap.size 0 rfl [.slice (some ⟨g,0,none⟩) ls.length cap,.slice (some ⟨gs,0,none⟩) n n] _ RB3.out.all Tryz.underlying72 rfl zcC ?_;simp only[Act.put,jA,jB,jC])
      |(go_at_call 90;refine Calls.mono HBG.out ?_;rintro e X4 ⟨rfl,q⟩;have B4:Hid (Below w.heap.size w X4):=BX.out.trans (q.mono BX.out.size);clear q))
     go_ret
     exact⟨by rw[HD.out];rfl,B4.out⟩
   ·have HD:Hid (zqP ls (t+1)=true):=zgK HX.out HLD.out (.inl (by rw[<-HK.out];exact k5))
    go_wp2
    refine⟨⟨t+1,hlt,by go_num,BX,RB3,HD⟩,by simp [intOf];omega⟩
  ·have et:t=ls.length:=by omega
   have HD:Hid (zhD ls=true):=zoT (by rw[<-et];exact HLD.out)
   clear HLD
   have e4:(t:Int)=(ls.length:Int):=by omega
   rw[e4]
   clear e4 et ht hlt
   go_wp2
   go_ret
   exact⟨by rw[HD.out];rfl,HB.out⟩
section
variable {ops:Array Oper} {rest:List Oper} {op:Oper} {a:Act} {w:World} {Q:Exit->Act->World->Prop}
theorem zbI (hgd:op.guard=none) (ty:TypeId) (x y:Operand) (ho:op.op=.store ty x y)
 (b i:Nat) (v:Value) (cs:List Value) (t:TypeId) (hx:a.eval x=.pointer (some ⟨b,i,none⟩)) (hy:a.eval y=v) (hcs:v.cells=#[v]) (r:Row w b cs t) (hl:i<cs.length) (hi:(Tryz.prog.info? ty).map (·.size)=some 1) (h1:v.oneCell'=true)
 (h:∀ X,Row X b (cs.set i v) t->Gro (·=b) w X->X.heap.size=w.heap.size->wpList Tryz.prog ops Q rest (a.put op.dst undef) X):wpList Tryz.prog ops Q (op :: rest) a w:=
 zkT hgd ty x y ho b i v hx hy hcs (r.there i 1 (by omega)) hi h1 (h _ (r.set i v) ((Gro.refl _ _).set b i v rfl) (by simp))
theorem zmI (hgd:op.guard=none) (x y:Operand) (ho:op.op=.makeSlice 52 x y) (n:Nat) (hx:a.eval x=.int .i64 (n:Int)) (hy:a.eval y=.int .i64 (n:Int)) (hn:n<=35184372088832)
 (h:∀ X,Row X w.heap.size (vI (List.replicate n 0)) 3->Below w.heap.size w X->X.heap.size=w.heap.size+1->wpList Tryz.prog ops Q rest (a.put op.dst (.slice (some ⟨w.heap.size,0,none⟩) n n)) X):wpList Tryz.prog ops Q (op :: rest) a w:=
 zbM hgd 52 x y ho 3 n _ _ rfl rfl hx hy hn Tryz.underlying52 zbN (h _ (Row.new' rfl rfl) ((Below.refl _ _).alloc (Nat.le_refl _) _) (by simp))
theorem zbL (t e:TypeId) (sz:Nat) (hu:Tryz.prog.underlying t=some (.slice e)) (hi:∃ ie z,Tryz.prog.info? e=some ie/\ie.zero=some z/\ie.size=sz/\z.cells.size=sz) (h0:0<sz) (hs:sz<=4096) (hgd:op.guard=none) (x:Operand) (ho:op.op=.buildSlice t 1 #[(0,x)]) (L:List Value) (hL:L.length=sz) (hx:a.eval x=.agg L.toArray)
 (h:∀ X,Row X w.heap.size L e->Below w.heap.size w X->X.heap.size=w.heap.size+1->wpList Tryz.prog ops Q rest (a.put op.dst (.slice (some ⟨w.heap.size,0,none⟩) 1 1)) X):wpList Tryz.prog ops Q (op :: rest) a w:=by
 obtain⟨ie,z,h1,h2,h3,h4⟩:=hi
 refine wpList_buildSlice hgd t e 1 _ ho L.toArray ie z hu h1 h2 (by rw[h3];omega) (by rw[h3];omega) ?_ (h _ (Row.new' rfl rfl) ((Below.refl _ _).alloc (Nat.le_refl _) _) (by simp))
 rw[show (Array.map (fun (p:Nat × Operand)=>match p with|(i,x)=>(i,a.eval x)) #[(0,x)]).toList=[(0,a.eval x)] by simp,hx,h3]
 exact zoI sz h0 _ _ (by simp [hL]) (by simp)
theorem zdU (t e:TypeId) (sz bt:Nat) (hu:Tryz.prog.underlying t=some (.slice e)) (hi:∃ ie z,Tryz.prog.info? e=some ie/\ie.zero=some z/\ie.size=sz/\ie.bytes=bt/\z.cells.size=sz) (h0:0<sz) (hb0:bt<=4096) (hgd:op.guard=none) (s x:Operand) (ho:op.op=.call { callee:=.builtin .append,args:=#[s,x],argTypes:=#[t,t] }) (v:Value) (n:Nat) (l news:List Value) (hs:a.eval s=v) (hown:Lw w e sz v n l)
 (g2:Nat) (hm:news.length=sz) (hx:a.eval x=.slice (some ⟨g2,0,none⟩) 1 1) (hX:w.rangeAt g2 0 news) (h1:∀ v ∈ news,v.oneCell'=true) (hk:n<=1000000)
 (h:∀ v' w',Lw w' e sz v' (n+1) (l++news)->w.grownBy w' v.ownBlock->(v'.ownBlock=v.ownBlock\/v'.ownBlock=some w.heap.size)->wpList Tryz.prog ops Q rest (a.put op.dst v') w'):wpList Tryz.prog ops Q (op :: rest) a w:=
 wpList_plain hgd fun _ hK=>zkU t e sz bt hu hi h0 hb0 s x ho v n l news hs hown g2 hm hx hX h1 hk (fun v' w' q1 q2 q3=>hK _ _ (h v' w' q1 q2 q3))
end
theorem zqM:(Tryz.prog.info? 97).map (fun i=>(i.zero,i.size,i.bytes))=some (some (.agg zI.toArray),7,56):=by kernel_rfl
theorem zhZ:∃ ie z,Tryz.prog.info? 97=some ie/\ie.zero=some z/\ie.size=7/\ie.bytes=56/\z.cells.size=7:=by
 have i1:=zqM
 cases hi:Tryz.prog.info? 97 with
 |none=>rw[hi] at i1;cases i1
 |some ie=>
  rw[hi] at i1
  simp only[Option.map_some,Option.some.injEq,Prod.mk.injEq] at i1
  exact⟨ie,_,rfl,i1.1,i1.2.1,i1.2.2,rfl⟩
theorem zlG:∃ ie z,Tryz.prog.info? 97=some ie/\ie.zero=some z/\ie.size=7/\z.cells.size=7:=by
 obtain⟨ie,z,h1,h2,h3,_,h5⟩:=zhZ
 exact⟨ie,z,h1,h2,h3,h5⟩
theorem ic_mem (c p a n:Nat):∀ v ∈ ic c p a n,v.oneCell'=true:=by
 have:=zfA c p a n
 rw[<-Array.all_toList] at this
 exact List.all_eq_true.1 this
theorem zfC:(Tryz.prog.info? 3).map (·.size)=some 1:=by kernel_rfl
theorem info_Ls:(Tryz.prog.info? 70).map (·.size)=some 1:=by kernel_rfl
def pg (d:List (BitVec 8)):Nat->Nat->Option (List Ins)
 |0,_=>none
 |f+1,p=>if d.length<=p then some [] else match ri (d.drop p) with
  |none=>none
  |some (c,a,n,s)=>(pg d f (p+s)).map (⟨c,p,a,n⟩ :: ·)
theorem zjL {d:List (BitVec 8)} {f p:Nat} (h:d.length<=p):pg d (f+1) p=some []:=if_pos h
theorem zfT {d:List (BitVec 8)} {f p:Nat} (h:p<d.length) (hr:ri (d.drop p)=none):pg d (f+1) p=none:=by
 unfold pg
 rw[if_neg (by omega),hr]
theorem zfU {d:List (BitVec 8)} {f p c a n s:Nat} (h:p<d.length) (hr:ri (d.drop p)=some (c,a,n,s)):pg d (f+1) p=(pg d f (p+s)).map (⟨c,p,a,n⟩ :: ·):=by
 rw[pg,if_neg (by omega),hr]
def chk (d:List (BitVec 8)):Option (List Ins):=if d.length=0\/1024<d.length then none else match pg d (d.length+1) 0 with
 |none=>none
 |some ls=>if zhD ls=true then some ls else none
def Gd (ls:List Ins) (p:Nat):Prop:=∀ y ∈ ls,y.p<p/\y.c<28/\y.n<65536/\y.a<2 ^ 256
theorem Gd.more {ls:List Ins} {p s:Nat} (h:Gd ls p) (x:Ins) (hx:x.p=p) (hs:1<=s) (hc:x.c<28) (hn:x.n<65536) (ha:x.a<2 ^ 256):Gd (ls++[x]) (p+s):=fun y hy=>by
 rcases List.mem_append.1 hy with q|q
 ·have:=h y q;exact⟨by omega,this.2.1,this.2.2.1,this.2.2.2⟩
 ·obtain rfl:=List.mem_singleton.1 q
  exact⟨by omega,hc,hn,ha⟩
theorem ztM (b:List (BitVec 8)):nb b<2 ^ 256:=rdn_lt yaK
theorem zuB {b:List (BitVec 8)} {c a n s:Nat} (h:ri b=some (c,a,n,s)):n<65536/\a<2 ^ 256:=by
 cases b with
 |nil=>cases h
 |cons x r=>
  unfold ri at h
  simp only at h
  split at h
  ·cases h
  ·split at h
   ·cases h
   ·split at h
    ·cases h
    ·rename_i a' n' hro
     simp only[Option.some.injEq,Prod.mk.injEq] at h
     obtain⟨rfl,rfl,rfl,rfl⟩:=h
     unfold ro at hro
     have h0:=((r.take (ow (zaZ x.toNat) r)).getD 0 0#8).isLt
     have h1:=((r.take (ow (zaZ x.toNat) r)).getD 1 0#8).isLt
     have hp:0<2 ^ 256:=Nat.two_pow_pos _
     split at hro
     ·simp only[Option.some.injEq,Prod.mk.injEq] at hro
      obtain⟨rfl,rfl⟩:=hro
      exact⟨by decide,hp⟩
     ·split at hro
      ·cases hro
      ·split at hro
       ·simp only[Option.some.injEq,Prod.mk.injEq] at hro
        obtain⟨rfl,rfl⟩:=hro
        exact⟨by decide,ztM _⟩
       ·split at hro
        ·simp only[Option.some.injEq,Prod.mk.injEq] at hro
         obtain⟨rfl,rfl⟩:=hro
         exact⟨by omega,hp⟩
        ·simp only[Option.some.injEq,Prod.mk.injEq] at hro
         obtain⟨rfl,rfl⟩:=hro
         exact⟨by omega,hp⟩
structure Rs (w X:World) (q pp gs n:Nat) (v:Value) (ls:List Ins):Prop where
 hq:Row X q zP 72
 hp:Row X pp [v,.slice (some ⟨gs,0,none⟩) n n] 72
 own:Lw X 97 7 v ls.length (fl ls)
 st:Row X gs (vI (sts ls n)) 3
 be:Below w.heap.size w X
 qlo:q=w.heap.size
 plo:w.heap.size<pp
 glo:w.heap.size<=gs
 vlo:∀ g,v.ownBlock=some g->w.heap.size<=g
theorem Rs.keep {w X Y:World} {q pp gs n:Nat} {v:Value} {ls:List Ins} (h:Rs w X q pp gs n v ls) (k:Below X.heap.size X Y):Rs w Y q pp gs n v ls:=
 ⟨Row.below h.hq k h.hq.lt,Row.below h.hp k h.hp.lt,Lw.be h.own k,Row.below h.st k h.st.lt,h.be.trans (k.mono h.be.size),h.qlo,h.plo,h.glo,h.vlo⟩
theorem zaN {w:World} {b c:Nat} {cs ds:List Value} {t u:TypeId} (h:Row w b cs t) (k:Row w c ds u) (ht:t≠u):b≠c:=fun e=>by
 subst e
 have:=h.symm.trans k
 simp only[Option.some.injEq,Obj.cells.injEq] at this
 exact ht this.2.1
end Go.Proofs.YtedeobikfddmgaaGreat
