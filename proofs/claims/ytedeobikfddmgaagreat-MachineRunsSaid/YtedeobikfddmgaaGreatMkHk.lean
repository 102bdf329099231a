import Derived.Test.YtedeobikfddmgaaGreatMkAA
import Derived.Test.YtedeobikfddmgaaGreatMkGtB
import Derived.BigRegion
import Derived.Deep.RegionLaw
import Derived.Test.YtedeobikfddmgaaGreatMkHc
import Derived.Test.YtedeobikfddmgaaGreatMkEg
import Derived.Test.YtedeobikfddmgaaGreatMkZc
import Derived.Test.YtedeobikfddmgaaGreatMkY
import Derived.Test.YtedeobikfddmgaaGreatMkFi
set_option maxRecDepth 100000
set_option maxHeartbeats 16000000
namespace Go.Proofs.YtedeobikfddmgaaGreat
open Go Go.RowKit
open Sha
open Wd
def zdZ (n:Nat):Code->Option Code
 |.region i ops b=>if i=n then some (.region i ops b) else none
 |.seq a b=>match zdZ n a with
  |some c=>some c
  |none=>zdZ n b
 |.block _ c=>zdZ n c
 |.scope c=>zdZ n c
 |.loop c=>zdZ n c
 |.cond _ a b=>match zdZ n a with
  |some c=>some c
  |none=>zdZ n b
 |_=>none
theorem ztH {w:World} {e:TypeId} {s n:Nat} {v:Value} {xs:List Value} (h:Lw w e s v n xs):Lw w.drew e s v n xs:=Lw.be h (Below.drew (Below.refl _ _))
noncomputable def rg (n:Nat):Code:=(zdZ n zhF).getD .skip
theorem t79 (l:List Value) (hl:l.length=362) (b6 b26:Nat) (E:Int) (qv:Value) (h6:l.getD 6 undef=.pointer (some ⟨b6,0,none⟩)) (h10:l.getD 10 undef=qv) (h26:l.getD 26 undef=.pointer (some ⟨b26,0,none⟩)) (X:World) (r6:Row X b6 zR 35) (ge:X.cell? ⟨b26,4,none⟩=some (.int .i64 E)) (hne:b6≠b26) {K:Act->World->Prop} {Q':Exit->Act->World->Prop}
 (hK:∀ (l':List Value) (X':World),l'.getD 6 undef=.pointer (some ⟨b6,0,none⟩)->l'.getD 7 undef=.int .i64 E->l'.getD 8 undef=qv->X'=(X.setCells b6 0 zR).drew->K ⟨l'.toArray,[]⟩ X'):(rg 79).wp Tryz.prog (Exit.then K Q') ⟨l.toArray,[]⟩ X:=by
 obtain⟨f,hf,hl2⟩:=zfS l hl
 rw[hl2]
 dsimp only
 have e6:=h6
 rw[show l.getD 6 undef=f 6 by rw[hf]] at e6
 have e10:=h10
 rw[show l.getD 10 undef=f 10 by rw[hf]] at e10
 have e26:=h26
 rw[show l.getD 26 undef=f 26 by rw[hf]] at e26
 rw[e6,e10,e26]
 clear hl2 hf e6 e10 e26 h6 h10 h26 hl
 have c0:=r6.cell 0 _ rfl
 have c1:=r6.cell 1 _ rfl
 have c2:=r6.cell 2 _ rfl
 have c3:=r6.cell 3 _ rfl
 have c4:=r6.cell 4 _ rfl
 have t0:=r6.thaw 0
 have t1:=r6.thaw 1
 have t2:=r6.thaw 2
 have t3:=r6.thaw 3
 have t4:=r6.thaw 4
 clear r6
 conv=>arg 2;whnf
 go_region
 exact hK _ _ rfl rfl rfl rfl
theorem t33 (l:List Value) (hl:l.length=362) (b4 b6 gv cv a:Nat) (g l2:Int) (qv:Value) (h4:l.getD 4 undef=.pointer (some ⟨b4,0,none⟩)) (h6:l.getD 6 undef=.pointer (some ⟨b6,0,none⟩)) (h10:l.getD 10 undef=qv) (h11:l.getD 11 undef=.int .i64 l2) (h18:l.getD 18 undef=.slice (some ⟨gv,0,none⟩) 1 cv) (X:World) (r6:Row X b6 zR 35) (g47:X.cell? ⟨b4,47,none⟩=some (.int .i64 g)) (hv:X.rangeAt gv 0 (wq a)) (hg0:0<=g) (hg1:g<=10000) (hl0:0<=l2) (hl1:l2<=10000) {K:Act->World->Prop} {Q':Exit->Act->World->Prop}
 (hK:∀ (l':List Value) (X':World),l'.getD 6 undef=.pointer (some ⟨b6,0,none⟩)->l'.getD 7 undef=.int .i64 0->l'.getD 8 undef=qv->X'=(X.setCells b6 0 (wq a++[.int .i64 (g-l2)])).drew->K ⟨l'.toArray,[]⟩ X'):(rg 33).wp Tryz.prog (Exit.then K Q') ⟨l.toArray,[]⟩ X:=by
 obtain⟨f,hf,hl2⟩:=zfS l hl
 rw[hl2]
 dsimp only
 have e4:=h4
 rw[show l.getD 4 undef=f 4 by rw[hf]] at e4
 have e6:=h6
 rw[show l.getD 6 undef=f 6 by rw[hf]] at e6
 have e10:=h10
 rw[show l.getD 10 undef=f 10 by rw[hf]] at e10
 have e11:=h11
 rw[show l.getD 11 undef=f 11 by rw[hf]] at e11
 have e18:=h18
 rw[show l.getD 18 undef=f 18 by rw[hf]] at e18
 rw[e4,e6,e10,e11,e18]
 clear hl2 hf e4 e6 e10 e11 e18 h4 h6 h10 h11 h18 hl
 have c0:=r6.cell 0 _ rfl
 have c1:=r6.cell 1 _ rfl
 have c2:=r6.cell 2 _ rfl
 have c3:=r6.cell 3 _ rfl
 have c4:=r6.cell 4 _ rfl
 have t0:=r6.thaw 0
 have t1:=r6.thaw 1
 have t2:=r6.thaw 2
 have t3:=r6.thaw 3
 have t4:=r6.thaw 4
 rw[zaQ] at hv hK
 have v0:=hv 0 _ rfl
 have v1:=hv 1 _ rfl
 have v2:=hv 2 _ rfl
 have v3:=hv 3 _ rfl
 generalize (lim a 0:Int)=u0 at *
 generalize (lim a 1:Int)=u1 at *
 generalize (lim a 2:Int)=u2 at *
 generalize (lim a 3:Int)=u3 at *
 clear r6 hv
 conv=>arg 2;whnf
 go_region
 exact hK _ _ rfl rfl rfl rfl
def zhI:List Value->List Bool->List Value
 |v :: r,b :: bs=>(bif b then undef else v) :: zhI r bs
 |l,[]=>l
 |[],_=>[]
def zlL:List Value->List Bool->Nat->(Nat->Value)->List Value
 |v :: r,b :: bs,k,f=>(bif b then f k else v) :: zlL r bs (k+1) f
 |l,[],_,_=>l
 |[],_,_,_=>[]
theorem zfJ:∀ (bs:List Bool) (l l':List Value) (k0:Nat) (f:Nat->Value),l'.length=l.length->(∀ k,f (k0+k)=l'.getD k undef)->zhI l' bs=zhI l bs->l'=zlL l bs k0 f
 |[],[],[],_,_,_,_,_=>rfl
 |[],[],_ :: _,_,_,hl,_,_=>by simp at hl
 |[],_ :: _,[],_,_,hl,_,_=>by simp at hl
 |[],_ :: _,_ :: _,_,_,_,_,h=>h
 |b :: bs,[],l',_,_,hl,_,_=>by
  cases l' with
  |nil=>rfl
  |cons _ _=>simp at hl
 |b :: bs,v :: r,[],_,_,hl,_,_=>by simp at hl
 |b :: bs,v :: r,v' :: r',k0,f,hl,hf,h=>by
  simp only[zhI,List.cons.injEq] at h
  have ih:=zfJ bs r r' (k0+1) f (by simpa using hl) (fun k=>by rw[show k0+1+k=k0+(k+1) by omega,hf (k+1)];rfl) h.2
  have h0:f k0=v':=hf 0
  simp only[zlL,List.cons.injEq]
  refine⟨?_,ih⟩
  cases b
  ·simpa using h.1
  ·simpa using h0.symm
def bs53:List Bool:=[false,false,false,false,false,false,false,false,false,false,false,false,false,false,false,false,false,false,false,false,false,false,false,true,true,false,false,false,false,false,false,false,false,false,false,false,false,false,false,false,false,false,false,false,false,false,false,false,false,false,false,false,false,false,false,false,false,false,false,false,false,false,false,false,false,false,false,false,false,false,false,false,false,false,false,false,false,false,false,false,false,false,false,false,false,false,false,false,false,false,false,false,false,false,false,false,false,false,false,false,false,false,false,false,false,false,false,false,false,false,false,false,false,false,false,false,false,false,false,false,false,false,false,false,false,false,false,false,false,false,false,false,false,false,false,false,false,false,false,false,false,false,false,false,false,false,false,false,false,false,false,false,false,false,false,false,false,false,false,false,false,false,false,false,false,false,false,false,false,false,false,false,false,false,false,false,false,false,false,false,false,false,false,false,false,false,false,false,false,false,false,false,false,false,false,false,false,false,false,false,false,false,false,false,false,false,false,false,false,false,false,false,false,false,false,false,false,false,false,false,false,false,false,false,false,false,false,false,false,false,false,false,false,false,false,false,true,true,true,true,true,true,true,true,true,true,true,false,false,false,false,false,false,false,false,false,false,false,false,false,false,false,false,false,false,false,false,false,false,false,false,false,false,false,false,false,false,false,false,false,false,false,false,false,false,false,false,false,false,false,false,false,false,false,false,false,false,false,false,false,false,false,false,false,false,false,false,false,false,false,false,false,false,false,false,false,false,false,false,false,false,false,false,false,false,false,false,false,false,false,false,false,false,false,false,false,false,false,false,false,false,false,false,false,false,false,false,false,false,false,false,false,false,false,false,false,false,false,false,false,false,false]
theorem t53 (l:List Value) (hl:l.length=362) (gv cv x y z:Nat) (c:Int) (B:Bool) (h13:l.getD 13 undef=.int .i64 c) (h18:l.getD 18 undef=.slice (some ⟨gv,0,none⟩) 2 cv) (X:World) (hx:X.rangeAt gv 0 (wq x)) (hy:X.rangeAt gv 4 (wq y)) (hs:∀ W,Calls Tryz.prog 16 #[.int .i64 c,.agg (wq x).toArray,.agg (wq y).toArray] W fun e w'=>e=.returned (.tuple #[.agg (wq z).toArray,.bool B])/\Below W.heap.size W w') {K:Act->World->Prop} {Q':Exit->Act->World->Prop}
 (hK:∀ (l':List Value) (X':World) (b:Nat),l'.length=362->zhI l' bs53=zhI l bs53->l'.getD 23 undef=.pointer (some ⟨b,0,none⟩)->l'.getD 24 undef=.bool B->Row X' b (wq z) 27->Below X.heap.size X X'->K ⟨l'.toArray,[]⟩ X'):(rg 53).wp Tryz.prog (Exit.then K Q') ⟨l.toArray,[]⟩ X:=by
 obtain⟨f,hf,hl2⟩:=zfS l hl
 have e13:=h13
 rw[show l.getD 13 undef=f 13 by rw[hf]] at e13
 have e18:=h18
 rw[show l.getD 18 undef=f 18 by rw[hf]] at e18
 rw[hl2] at hK ⊢
 dsimp only at hK ⊢
 rw[e13,e18] at hK ⊢
 have HK:Hid _:=hK
 clear hK hl2 hf e13 e18 h13 h18 hl
 obtain⟨a0,ha0⟩:∃ u:Int,u=(lim x 0:Int):=⟨_,rfl⟩
 obtain⟨a1,ha1⟩:∃ u:Int,u=(lim x 1:Int):=⟨_,rfl⟩
 obtain⟨a2,ha2⟩:∃ u:Int,u=(lim x 2:Int):=⟨_,rfl⟩
 obtain⟨a3,ha3⟩:∃ u:Int,u=(lim x 3:Int):=⟨_,rfl⟩
 obtain⟨c0,hc0⟩:∃ u:Int,u=(lim y 0:Int):=⟨_,rfl⟩
 obtain⟨c1,hc1⟩:∃ u:Int,u=(lim y 1:Int):=⟨_,rfl⟩
 obtain⟨c2,hc2⟩:∃ u:Int,u=(lim y 2:Int):=⟨_,rfl⟩
 obtain⟨c3,hc3⟩:∃ u:Int,u=(lim y 3:Int):=⟨_,rfl⟩
 have ex:wq x=[.int .u64 a0,.int .u64 a1,.int .u64 a2,.int .u64 a3]:=by rw[zaQ,ha0,ha1,ha2,ha3]
 have ey:wq y=[.int .u64 c0,.int .u64 c1,.int .u64 c2,.int .u64 c3]:=by rw[zaQ,hc0,hc1,hc2,hc3]
 rw[ex] at hx
 rw[ey] at hy
 obtain⟨r0,hr0⟩:∃ u:Int,u=(lim z 0:Int):=⟨_,rfl⟩
 obtain⟨r1,hr1⟩:∃ u:Int,u=(lim z 1:Int):=⟨_,rfl⟩
 obtain⟨r2,hr2⟩:∃ u:Int,u=(lim z 2:Int):=⟨_,rfl⟩
 obtain⟨r3,hr3⟩:∃ u:Int,u=(lim z 3:Int):=⟨_,rfl⟩
 have ez:wq z=[.int .u64 r0,.int .u64 r1,.int .u64 r2,.int .u64 r3]:=by rw[zaQ,hr0,hr1,hr2,hr3]
 have HS:Hid (∀ W,Calls Tryz.prog 16 #[.int .i64 c,.agg #[.int .u64 a0,.int .u64 a1,.int .u64 a2,.int .u64 a3],.agg #[.int .u64 c0,.int .u64 c1,.int .u64 c2,.int .u64 c3]] W fun e w'=>e=.returned (.tuple #[.agg #[.int .u64 r0,.int .u64 r1,.int .u64 r2,.int .u64 r3],.bool B])/\Below W.heap.size W w'):=fun W=>by
  have:=hs W
  rw[ex,ey,ez] at this
  exact this
 have HZ:Hid (wq z=[.int .u64 r0,.int .u64 r1,.int .u64 r2,.int .u64 r3]):=ez
 clear hs ha0 ha1 ha2 ha3 hc0 hc1 hc2 hc3 hr0 hr1 hr2 hr3 ex ey ez
 have RA:=zaS hx ((Below.refl _ _).alloc (Nat.le_refl _) (.cells #[.int .u64 0,.int .u64 0,.int .u64 0,.int .u64 0] 27))
 have RB:=zaS hy ((Below.refl _ _).alloc (Nat.le_refl _) (.cells #[.int .u64 0,.int .u64 0,.int .u64 0,.int .u64 0] 27))
 have v0:=hx 0 _ rfl
 have v1:=hx 1 _ rfl
 have v2:=hx 2 _ rfl
 have v3:=hx 3 _ rfl
 have v4:=hy 0 _ rfl
 have v5:=hy 1 _ rfl
 have v6:=hy 2 _ rfl
 have v7:=hy 3 _ rfl
 have i0:=RA 0 _ rfl
 have i1:=RA 1 _ rfl
 have i2:=RA 2 _ rfl
 have i3:=RA 3 _ rfl
 have i4:=RB 0 _ rfl
 have i5:=RB 1 _ rfl
 have i6:=RB 2 _ rfl
 have i7:=RB 3 _ rfl
 simp only[Nat.zero_add,Nat.add_zero,Nat.reduceAdd] at v0 v1 v2 v3 v4 v5 v6 v7 i0 i1 i2 i3 i4 i5 i6 i7
 clear RA RB hx hy
 have B1:Hid (Below X.heap.size X X):=Below.refl _ _
 refine wp_mono (Q:=Exit.then K (fun _ _ _=>False)) ?_ (fun e a' w' hq=>by
  cases e with
  |normal=>exact hq
  |_=>exact False.elim hq)
 conv=>arg 2;whnf
 go_region_law (refine zdT rfl 16 rfl #[.int .i64 c,.agg #[.int .u64 a0,.int .u64 a1,.int .u64 a2,.int .u64 a3],.agg #[.int .u64 c0,.int .u64 c1,.int .u64 c2,.int .u64 c3]] (by go_simp) (Calls.mono (HS.out _) ?_);rintro e V ⟨rfl,q⟩;refine⟨_,rfl,?_⟩;(first|(have BV:Hid (Below X.heap.size X V):=(B1.out.drew).trans (q.mono B1.out.size))|(have BV:Hid (Below X.heap.size X V):=(B1.out.alloc B1.out.size _).drew.trans (q.mono (by simp));have RZ:Row V X.heap.size (vQ (List.replicate 4 0)) 27:=Row.below (Row.drew (Row.new' (w:=X) rfl rfl)) q (by simp);have z0:=RZ.cell 0 _ rfl;have z1:=RZ.cell 1 _ rfl;have z2:=RZ.cell 2 _ rfl;have z3:=RZ.cell 3 _ rfl;have y0:=RZ.thaw 0;have y1:=RZ.thaw 1;have y2:=RZ.thaw 2;have y3:=RZ.thaw 3));clear q)
 all_goals
  simp only[Act.put,jA,jB,jC,List.getElem_toArray,List.getElem_cons_succ,List.getElem_cons_zero]
  (first
    |(refine HK.out _ _ X.heap.size rfl (by kernel_rfl) rfl rfl ?_ ?_
      ·rw[HZ.out]
       exact (((RZ.set 0 (.int .u64 r0)).set 1 (.int .u64 r1)).set 2 (.int .u64 r2)).set 3 (.int .u64 r3)
      ·exact (((BV.out.setCell (p:=⟨_,0,none⟩) B1.out.size _).setCell (p:=⟨_,1,none⟩) B1.out.size _).setCell (p:=⟨_,2,none⟩) B1.out.size _).setCell (p:=⟨_,3,none⟩) B1.out.size _)
    |(refine HK.out _ _ V.heap.size rfl (by kernel_rfl) rfl rfl ?_ ?_
      ·rw[HZ.out]
       exact Row.new' rfl rfl
      ·exact BV.out.alloc BV.out.size _))
theorem zuR {ops:Array Oper} {o:Oper} {a:Act} {w:World} {K:Act->World->Prop} {Q:Exit->Act->World->Prop} {E:Prop} (hg:o.guard=none) (s x:Operand) (ho:o.op=.call { callee:=.builtin .append,args:=#[s,x],argTypes:=#[znN,znN] }) {w0:World} {b4 b6:Nat} {L:List Value} {sv:Value} {ss:List Nat} {qv:Value} {qs:List (List Value)} (H:Dr w0 b4 b6 L w sv ss qv qs) (hs:a.eval s=qv) (q:List Value) (hq:q.length=30) (h1:∀ v ∈ q,v.oneCell'=true) (g2:Nat) (hx:a.eval x=.slice (some ⟨g2,0,none⟩) 1 1) (hX:w.rangeAt g2 0 q) (hn:qs.length<=1000) (h:∀ v' w',Dr w0 b4 b6 L w' sv ss v' (qs++[q])->K (a.put o.dst v') w'):if Region.wanted o (yielded ops a.tmps)=true then Oper.wp Tryz.prog o a w K Q else E:=by
 have hw:Region.wanted o (yielded ops a.tmps)=true:=by simp [Region.wanted,hg]
 rw[if_pos hw]
 exact zkU znN tAk 30 104 Tryz.underlying37 zdX (by decide) (by decide) s x ho qv qs.length qs.flatten q hs H.aq g2 hq hx hX h1 (by omega) (fun v' w' q1 q2 q3=>h v' w' (zsJ H q2 q1 q3))
def bs67:List Bool:=[false,false,false,false,false,false,false,false,false,false,true,false,false,false,false,false,false,false,false,false,false,false,false,false,false,false,false,false,false,false,false,false,false,false,false,false,false,false,false,false,false,false,false,false,false,false,false,false,false,false,false,false,false,false,false,false,false,false,false,false,false,false,false,false,false,false,false,false,false,false,false,false,false,false,false,false,false,false,false,false,false,false,false,false,false,false,false,false,false,false,false,false,false,false,false,false,false,false,false,false,false,false,false,false,false,false,false,false,false,false,false,false,false,false,false,false,false,false,false,false,false,false,false,false,false,false,false,false,false,false,false,false,false,false,false,false,false,false,false,false,false,false,false,false,false,false,false,false,false,false,false,false,false,false,false,false,false,false,false,false,false,false,false,false,false,false,false,false,false,false,false,false,false,false,false,false,false,false,false,false,false,false,false,false,false,false,false,false,false,false,false,false,false,false,false,false,false,false,false,false,false,false,false,false,false,false,false,false,false,false,false,false,false,false,false,false,false,false,false,false,false,false,false,false,false,false,false,false,false,false,false,false,false,false,false,false,false,false,false,false,false,false,false,false,false,false,false,false,false,false,false,false,false,false,false,false,false,false,false,false,false,false,false,false,false,false,false,false,false,false,false,false,false,false,false,false,false,false,false,false,false,false,false,false,false,false,false,true,true,true,true,true,true,true,true,true,true,false,false,false,false,false,false,false,false,false,false,false,false,false,false,false,false,false,false,false,false,false,false,false,false,false,false,false,false,false,false,false,false,false,false,false,false,false,false,false,false,false,false,false,false,false,false,false,false,false,false,false,false,false,false,false,false,false,false,false,false,false,false,false,false,false]
theorem t67 (l:List Value) (hl:l.length=362) (gv cv x y:Nat) (qv:Value) (h10:l.getD 10 undef=qv) (h18:l.getD 18 undef=.slice (some ⟨gv,0,none⟩) 2 cv) (X:World) (hx:X.rangeAt gv 0 (wq x)) (hy:X.rangeAt gv 4 (wq y)) {w0:World} {b4 b6:Nat} {L:List Value} {sv:Value} {ss:List Nat} {qs:List (List Value)} (D:Dr w0 b4 b6 L X sv ss qv qs) (hn:qs.length<=1000) {Q:Exit->Act->World->Prop}
 (hK:∀ (l':List Value) (X':World) (qv':Value),l'.length=362->zhI l' bs67=zhI l bs67->l'.getD 10 undef=qv'->Dr w0 b4 b6 L X' sv ss qv' (qs++[aq 2 x y 0 z20])->Q .normal ⟨l'.toArray,[]⟩ X'):(rg 67).wp Tryz.prog Q ⟨l.toArray,[]⟩ X:=by
 obtain⟨f,hf,hl2⟩:=zfS l hl
 have e10:=h10
 rw[show l.getD 10 undef=f 10 by rw[hf]] at e10
 have e18:=h18
 rw[show l.getD 18 undef=f 18 by rw[hf]] at e18
 rw[hl2] at hK ⊢
 dsimp only at hK ⊢
 rw[e10,e18] at hK ⊢
 have HK:Hid _:=hK
 have HD:Hid (Dr w0 b4 b6 L X sv ss qv qs):=D
 have HN:Hid (qs.length<=1000):=hn
 have HQL:Hid ((aq 2 x y 0 z20).length=30):=zeH _ _ _ _ _ (by simp)
 have HQA:Hid (∀ v ∈ aq 2 x y 0 z20,v.oneCell'=true):=znY zvO
 clear hK hl2 hf e10 e18 h10 h18 hl D hn
 obtain⟨a0,ha0⟩:∃ u:Int,u=(lim x 0:Int):=⟨_,rfl⟩
 obtain⟨a1,ha1⟩:∃ u:Int,u=(lim x 1:Int):=⟨_,rfl⟩
 obtain⟨a2,ha2⟩:∃ u:Int,u=(lim x 2:Int):=⟨_,rfl⟩
 obtain⟨a3,ha3⟩:∃ u:Int,u=(lim x 3:Int):=⟨_,rfl⟩
 obtain⟨c0,hc0⟩:∃ u:Int,u=(lim y 0:Int):=⟨_,rfl⟩
 obtain⟨c1,hc1⟩:∃ u:Int,u=(lim y 1:Int):=⟨_,rfl⟩
 obtain⟨c2,hc2⟩:∃ u:Int,u=(lim y 2:Int):=⟨_,rfl⟩
 obtain⟨c3,hc3⟩:∃ u:Int,u=(lim y 3:Int):=⟨_,rfl⟩
 have ex:wq x=[.int .u64 a0,.int .u64 a1,.int .u64 a2,.int .u64 a3]:=by rw[zaQ,ha0,ha1,ha2,ha3]
 have ey:wq y=[.int .u64 c0,.int .u64 c1,.int .u64 c2,.int .u64 c3]:=by rw[zaQ,hc0,hc1,hc2,hc3]
 have HQE:Hid (aq 2 x y 0 z20=[.int .i64 2,.int .u64 a0,.int .u64 a1,.int .u64 a2,.int .u64 a3,.int .u64 c0,.int .u64 c1,.int .u64 c2,.int .u64 c3,.int .i64 0,.int .u8 0,.int .u8 0,.int .u8 0,.int .u8 0,.int .u8 0,.int .u8 0,.int .u8 0,.int .u8 0,.int .u8 0,.int .u8 0,.int .u8 0,.int .u8 0,.int .u8 0,.int .u8 0,.int .u8 0,.int .u8 0,.int .u8 0,.int .u8 0,.int .u8 0,.int .u8 0]):=by
  show _=_
  unfold aq
  rw[ex,ey]
  rfl
 rw[ex] at hx
 rw[ey] at hy
 clear ha0 hc0 ha1 hc1 ha2 hc2 ha3 hc3 ex ey
 have v0:=hx 0 _ rfl
 have v1:=hx 1 _ rfl
 have v2:=hx 2 _ rfl
 have v3:=hx 3 _ rfl
 have v4:=hy 0 _ rfl
 have v5:=hy 1 _ rfl
 have v6:=hy 2 _ rfl
 have v7:=hy 3 _ rfl
 simp only[Nat.zero_add,Nat.add_zero,Nat.reduceAdd] at v0 v1 v2 v3 v4 v5 v6 v7
 clear hx hy
 refine wp_mono (Q:=Exit.then (fun a w=>Q .normal a w) (fun _ _ _=>False)) ?_ (fun e a' w' hq=>by
  cases e with
  |normal=>exact hq
  |_=>exact False.elim hq)
 conv=>arg 2;whnf
 go_region_law (refine zuR rfl (.tmp 287) (.tmp 295) rfl (HD.out.keep (((Below.refl _ _).alloc (Nat.le_refl _) _).drew)) rfl (aq 2 x y 0 z20) HQL.out HQA.out X.heap.size rfl (by rw[HQE.out];exact (Row.drew (Row.new' (w:=X) rfl rfl)).all) HN.out ?_;intro v9 W9 q;have D9:Hid (Dr w0 b4 b6 L W9 sv ss v9 (qs++[aq 2 x y 0 z20])):=q;clear q)
 all_goals
  simp only[Act.put,jA,jB,jC,List.getElem_toArray,List.getElem_cons_succ,List.getElem_cons_zero]
  exact HK.out _ _ _ rfl (by kernel_rfl) rfl D9.out
def bs75:List Bool:=[false,false,false,false,false,false,false,false,false,false,true,false,false,false,false,false,false,false,false,false,false,false,false,false,false,false,false,false,false,false,false,false,false,false,false,false,false,false,false,false,false,false,false,false,false,false,false,false,false,false,false,false,false,false,false,false,false,false,false,false,false,false,false,false,false,false,false,false,false,false,false,false,false,false,false,false,false,false,false,false,false,false,false,false,false,false,false,false,false,false,false,false,false,false,false,false,false,false,false,false,false,false,false,false,false,false,false,false,false,false,false,false,false,false,false,false,false,false,false,false,false,false,false,false,false,false,false,false,false,false,false,false,false,false,false,false,false,false,false,false,false,false,false,false,false,false,false,false,false,false,false,false,false,false,false,false,false,false,false,false,false,false,false,false,false,false,false,false,false,false,false,false,false,false,false,false,false,false,false,false,false,false,false,false,false,false,false,false,false,false,false,false,false,false,false,false,false,false,false,false,false,false,false,false,false,false,false,false,false,false,false,false,false,false,false,false,false,false,false,false,false,false,false,false,false,false,false,false,false,false,false,false,false,false,false,false,false,false,false,false,false,false,false,false,false,false,false,false,false,false,false,false,false,false,false,false,false,false,false,false,false,false,false,false,false,false,false,false,false,false,false,false,false,false,false,false,false,false,false,false,false,false,false,false,false,false,false,false,false,false,false,false,false,false,false,false,false,false,false,false,false,false,false,false,false,false,false,false,false,false,false,false,false,false,false,false,false,false,false,true,true,true,true,true,true,true,true,true,true,true,true,false,false,false,false,false,false,false,false,false,false,false,false,false,false,false,false,false,false,false,false,false,false,false,false,false,false,false,false,false,false,false]
theorem zvX (x:Nat):∃ u:Nat->Int,adr x=(List.range 20).map (fun i=>Value.int .u8 (u i)):=by
 have h:=adr_vB x
 have hl:((wB x).drop 12).length=20:=by rw[List.length_drop,wB_len]
 refine⟨fun i=>((((wB x).drop 12).getD i 0#8).toNat:Int),?_⟩
 rw[h]
 obtain⟨bb,hb⟩:∃ bb,bb=(wB x).drop 12:=⟨_,rfl⟩
 rw[<-hb] at hl ⊢
 match bb,hl with
 |[_,_,_,_,_,_,_,_,_,_,_,_,_,_,_,_,_,_,_,_],_=>rfl
theorem t75 (l:List Value) (hl:l.length=362) (gv cv t y z:Nat) (qv:Value) (h10:l.getD 10 undef=qv) (h18:l.getD 18 undef=.slice (some ⟨gv,0,none⟩) 3 cv) (h25:l.getD 25 undef=.int .i64 (t:Int)) (X:World) (hy:X.rangeAt gv 4 (wq y)) (hx:X.rangeAt gv 8 (wq z)) (hs:∀ W,Calls Tryz.prog 21 #[.agg (wq y).toArray] W fun e w'=>e=.returned (.agg (adr y).toArray)/\Below W.heap.size W w') {w0:World} {b4 b6:Nat} {L:List Value} {sv:Value} {ss:List Nat} {qs:List (List Value)} (D:Dr w0 b4 b6 L X sv ss qv qs) (hn:qs.length<=1000) {Q:Exit->Act->World->Prop}
 (hK:∀ (l':List Value) (X':World) (qv':Value),l'.length=362->zhI l' bs75=zhI l bs75->l'.getD 10 undef=qv'->Dr w0 b4 b6 L X' sv ss qv' (qs++[aq 4 z 0 t (adr y)])->Q .normal ⟨l'.toArray,[]⟩ X'):(rg 75).wp Tryz.prog Q ⟨l.toArray,[]⟩ X:=by
 obtain⟨f,hf,hl2⟩:=zfS l hl
 have e10:=h10
 rw[show l.getD 10 undef=f 10 by rw[hf]] at e10
 have e18:=h18
 rw[show l.getD 18 undef=f 18 by rw[hf]] at e18
 have e25:=h25
 rw[show l.getD 25 undef=f 25 by rw[hf]] at e25
 rw[hl2] at hK ⊢
 dsimp only at hK ⊢
 rw[e10,e18,e25] at hK ⊢
 have HK:Hid _:=hK
 have HD:Hid (Dr w0 b4 b6 L X sv ss qv qs):=D
 have HN:Hid (qs.length<=1000):=hn
 have HQL:Hid ((aq 4 z 0 t (adr y)).length=30):=zeH _ _ _ _ _ (zdL _)
 have HQA:Hid (∀ v ∈ aq 4 z 0 t (adr y),v.oneCell'=true):=znY zrF
 clear hK hl2 hf e10 e18 e25 h10 h18 h25 hl D hn
 obtain⟨u,hu⟩:=zvX y
 obtain⟨m0,hb0⟩:∃ v:Int,v=u 0:=⟨_,rfl⟩
 obtain⟨m1,hb1⟩:∃ v:Int,v=u 1:=⟨_,rfl⟩
 obtain⟨m2,hb2⟩:∃ v:Int,v=u 2:=⟨_,rfl⟩
 obtain⟨m3,hb3⟩:∃ v:Int,v=u 3:=⟨_,rfl⟩
 obtain⟨m4,hb4⟩:∃ v:Int,v=u 4:=⟨_,rfl⟩
 obtain⟨m5,hb5⟩:∃ v:Int,v=u 5:=⟨_,rfl⟩
 obtain⟨m6,hb6⟩:∃ v:Int,v=u 6:=⟨_,rfl⟩
 obtain⟨m7,hb7⟩:∃ v:Int,v=u 7:=⟨_,rfl⟩
 obtain⟨m8,hb8⟩:∃ v:Int,v=u 8:=⟨_,rfl⟩
 obtain⟨m9,hb9⟩:∃ v:Int,v=u 9:=⟨_,rfl⟩
 obtain⟨m10,hb10⟩:∃ v:Int,v=u 10:=⟨_,rfl⟩
 obtain⟨m11,hb11⟩:∃ v:Int,v=u 11:=⟨_,rfl⟩
 obtain⟨m12,hb12⟩:∃ v:Int,v=u 12:=⟨_,rfl⟩
 obtain⟨m13,hb13⟩:∃ v:Int,v=u 13:=⟨_,rfl⟩
 obtain⟨m14,hb14⟩:∃ v:Int,v=u 14:=⟨_,rfl⟩
 obtain⟨m15,hb15⟩:∃ v:Int,v=u 15:=⟨_,rfl⟩
 obtain⟨m16,hb16⟩:∃ v:Int,v=u 16:=⟨_,rfl⟩
 obtain⟨m17,hb17⟩:∃ v:Int,v=u 17:=⟨_,rfl⟩
 obtain⟨m18,hb18⟩:∃ v:Int,v=u 18:=⟨_,rfl⟩
 obtain⟨m19,hb19⟩:∃ v:Int,v=u 19:=⟨_,rfl⟩
 have ew:adr y=[.int .u8 m0,.int .u8 m1,.int .u8 m2,.int .u8 m3,.int .u8 m4,.int .u8 m5,.int .u8 m6,.int .u8 m7,.int .u8 m8,.int .u8 m9,.int .u8 m10,.int .u8 m11,.int .u8 m12,.int .u8 m13,.int .u8 m14,.int .u8 m15,.int .u8 m16,.int .u8 m17,.int .u8 m18,.int .u8 m19]:=by
  rw[hu,hb0,hb1,hb2,hb3,hb4,hb5,hb6,hb7,hb8,hb9,hb10,hb11,hb12,hb13,hb14,hb15,hb16,hb17,hb18,hb19]
  rfl
 clear hu
 obtain⟨a0,ha0⟩:∃ u:Int,u=(lim z 0:Int):=⟨_,rfl⟩
 obtain⟨a1,ha1⟩:∃ u:Int,u=(lim z 1:Int):=⟨_,rfl⟩
 obtain⟨a2,ha2⟩:∃ u:Int,u=(lim z 2:Int):=⟨_,rfl⟩
 obtain⟨a3,ha3⟩:∃ u:Int,u=(lim z 3:Int):=⟨_,rfl⟩
 obtain⟨c0,hc0⟩:∃ u:Int,u=(lim y 0:Int):=⟨_,rfl⟩
 obtain⟨c1,hc1⟩:∃ u:Int,u=(lim y 1:Int):=⟨_,rfl⟩
 obtain⟨c2,hc2⟩:∃ u:Int,u=(lim y 2:Int):=⟨_,rfl⟩
 obtain⟨c3,hc3⟩:∃ u:Int,u=(lim y 3:Int):=⟨_,rfl⟩
 have ez:wq z=[.int .u64 a0,.int .u64 a1,.int .u64 a2,.int .u64 a3]:=by rw[zaQ,ha0,ha1,ha2,ha3]
 have ey:wq y=[.int .u64 c0,.int .u64 c1,.int .u64 c2,.int .u64 c3]:=by rw[zaQ,hc0,hc1,hc2,hc3]
 have HQE:Hid (aq 4 z 0 t (adr y)=[.int .i64 4,.int .u64 a0,.int .u64 a1,.int .u64 a2,.int .u64 a3,.int .u64 0,.int .u64 0,.int .u64 0,.int .u64 0,.int .i64 (t:Int),.int .u8 m0,.int .u8 m1,.int .u8 m2,.int .u8 m3,.int .u8 m4,.int .u8 m5,.int .u8 m6,.int .u8 m7,.int .u8 m8,.int .u8 m9,.int .u8 m10,.int .u8 m11,.int .u8 m12,.int .u8 m13,.int .u8 m14,.int .u8 m15,.int .u8 m16,.int .u8 m17,.int .u8 m18,.int .u8 m19]):=by
  show _=_
  unfold aq
  rw[ez,ew]
  rfl
 have HS:Hid (∀ W,Calls Tryz.prog 21 #[.agg #[.int .u64 c0,.int .u64 c1,.int .u64 c2,.int .u64 c3]] W fun e w'=>e=.returned (.agg #[.int .u8 m0,.int .u8 m1,.int .u8 m2,.int .u8 m3,.int .u8 m4,.int .u8 m5,.int .u8 m6,.int .u8 m7,.int .u8 m8,.int .u8 m9,.int .u8 m10,.int .u8 m11,.int .u8 m12,.int .u8 m13,.int .u8 m14,.int .u8 m15,.int .u8 m16,.int .u8 m17,.int .u8 m18,.int .u8 m19])/\Below W.heap.size W w'):=fun W=>by
  have:=hs W
  rw[ey,ew] at this
  exact this
 rw[ez] at hx
 rw[ey] at hy
 have HX:Hid (X.rangeAt gv 8 [.int .u64 a0,.int .u64 a1,.int .u64 a2,.int .u64 a3]):=hx
 clear hs ha0 hc0 ha1 hc1 ha2 hc2 ha3 hc3 hb0 hb1 hb2 hb3 hb4 hb5 hb6 hb7 hb8 hb9 hb10 hb11 hb12 hb13 hb14 hb15 hb16 hb17 hb18 hb19 ez ey ew
 have v0:=hx 0 _ rfl
 have v1:=hx 1 _ rfl
 have v2:=hx 2 _ rfl
 have v3:=hx 3 _ rfl
 have v4:=hy 0 _ rfl
 have v5:=hy 1 _ rfl
 have v6:=hy 2 _ rfl
 have v7:=hy 3 _ rfl
 simp only[Nat.add_zero,Nat.reduceAdd] at v0 v1 v2 v3 v4 v5 v6 v7
 clear hx hy
 have B1:Hid (Below X.heap.size X X):=Below.refl _ _
 refine wp_mono (Q:=Exit.then (fun a w=>Q .normal a w) (fun _ _ _=>False)) ?_ (fun e a' w' hq=>by
  cases e with
  |normal=>exact hq
  |_=>exact False.elim hq)
 conv=>arg 2;whnf
 go_region_law (first
  |(refine zdT rfl 21 rfl #[.agg #[.int .u64 c0,.int .u64 c1,.int .u64 c2,.int .u64 c3]] (by go_simp) (Calls.mono (HS.out _) ?_);rintro e V ⟨rfl,q⟩;refine⟨_,rfl,?_⟩;have BV:Hid (Below X.heap.size X V):=(B1.out.drew).trans (q.mono B1.out.size);clear q;have RV:=zaS HX.out BV.out;have z0:=RV 0 _ rfl;have z1:=RV 1 _ rfl;have z2:=RV 2 _ rfl;have z3:=RV 3 _ rfl;simp only[Nat.add_zero,Nat.reduceAdd] at z0 z1 z2 z3;clear RV)
  |(refine zuR rfl (.tmp 319) (.tmp 329) rfl (HD.out.keep (BV.out.alloc BV.out.size _)) rfl (aq 4 z 0 t (adr y)) HQL.out HQA.out V.heap.size rfl (by rw[HQE.out];exact (Row.new' (w:=V) rfl rfl).all) HN.out ?_;intro v9 W9 q;have D9:Hid (Dr w0 b4 b6 L W9 sv ss v9 (qs++[aq 4 z 0 t (adr y)])):=q;clear q))
 all_goals
  simp only[Act.put,jA,jB,jC,List.getElem_toArray,List.getElem_cons_succ,List.getElem_cons_zero]
  exact HK.out _ _ _ rfl (by kernel_rfl) rfl D9.out
noncomputable def rsr (c:Code):Code:=match zhF with
 |.block _ (.seq _ (.seq _ (.seq _ (.seq _ (.seq _ (.seq _ (.seq _ (.seq _ (.seq _ (.seq _ (.seq _ (.seq _ (.seq _ (.seq _ (.seq b _)))))))))))))))=>.seq b c
 |x=>x
noncomputable def rmd (c:Code):Code:=match zhF with
 |.block _ (.seq _ (.seq _ (.seq _ (.seq _ (.seq _ (.seq _ (.seq _ (.seq _ (.seq _ (.seq _ (.seq _ (.seq _ (.seq _ (.seq _ (.seq _ (.seq d _))))))))))))))))=>.seq d c
 |x=>x
theorem zpA (c:Code):rsr (rmd c)=rsq c:=by kernel_rfl
structure An (w0:World) (b4 b6:Nat) (L:List Value) (kv rv:Value) (Aq:Option Addr) (nq cq:Nat) (qs2:List (List Value)) (bs tops:List Nat) (z:Int) (l2 p2:Nat) (sv:Value) (lst:List Value) (X:World):Prop where
 len:lst.length=362
 f0:lst.getD 0 undef=kv
 f2:lst.getD 2 undef=rv
 f4:lst.getD 4 undef=.pointer (some ⟨b4,0,none⟩)
 f6:lst.getD 6 undef=.pointer (some ⟨b6,0,none⟩)
 f9:lst.getD 9 undef=sv
 f10:lst.getD 10 undef=.slice Aq (nq+1) cq
 f11:lst.getD 11 undef=.int .i64 (l2:Int)
 f13:lst.getD 13 undef=.int .i64 z
 f17:lst.getD 17 undef=.int .i64 (bs.length:Int)
 f19:lst.getD 19 undef=.int .i64 (p2:Int)
 f20:lst.getD 20 undef=.slice none 0 0
 dr:Dr w0 b4 b6 L X sv (bs++tops) (.slice Aq (nq+1) cq) qs2
 n64:bs.length+tops.length<=64
 ql:qs2.length=nq+1
 n50:nq<=50
section
variable {w0:World} {pd:List (BitVec 8)} {ls:List Ins} {ags:List Nat} {rs:List (Nat × Int)} {cl:Cl} {G:Nat} {L:List Value} {Aa Ar:Option Addr} {na ca nr cr0 gk ok m ck b4 b6:Nat} {R:Except Int (Nat × Nat)} {Q:List (List Value)} {RV:List Value} {RE:Int} {Q0:Exit->Act->World->Prop} {I:Act->World->Prop}
theorem zzA {kv:Value} {Aq:Option Addr} {nq cq l l2 p2 nx:Nat} {qs2:List (List Value)} {bs tops on st2:List Nat} {z:Int} {sv:Value} {lst:List Value} {X:World} (E:Env w0 pd ls ags rs cl G L Aa Ar na ca nr cr0 gk ok m ck b4 b6) (A:An w0 b4 b6 L kv (.slice Ar nr cr0) Aq nq cq qs2 bs tops z l2 p2 sv lst X) (hge:(24:Int)<=z) (rp:Nat × Int) (hrp:rp=rs.getD nq (0,0)) (hz:((z==24)=true/\on=[rp.1])\/((z==24)=false/\(z==26)=true/\on=[rp.1])\/((z==24)=false/\(z==26)=false/\on=[]))
 (hok:rp.2=0->Rd cl ags ls rs R Q G st2 l2 (nx+1) qs2/\nx+1<=ls.length/\l2<l) (hp2:p2=zgT ls m (nx+1)) (hrv:bs++on=st2.reverse) (hno:rp.2≠0->RV=zR/\RE=rp.2/\Q=qs2) (hret:∀ a w,RP w0 b6 RV RE Q a w->Q0 .ret a w) (code:Code) (hc:code=rbt) :
 Code.wp Tryz.prog (rmd code) (Exit.inBlock 1 (Exit.then (fun a w=>WI w0 b4 b6 L kv (.slice Ar nr cr0) cl ags ls rs R Q G m a w/\Wmu a<l) Q0)) ⟨lst.toArray,[]⟩ X:=by
 obtain⟨f,hf,e⟩:=zoK lst A.len
 rw[e]
 unfold fra
 simp only[(hf 0).trans A.f0,(hf 2).trans A.f2,(hf 4).trans A.f4,(hf 6).trans A.f6,(hf 9).trans A.f9,(hf 10).trans A.f10,(hf 11).trans A.f11,(hf 13).trans A.f13,(hf 17).trans A.f17,(hf 19).trans A.f19,(hf 20).trans A.f20]
 have HAN:Hid (∀ X,Below w0.heap.size w0 X->Calls Tryz.prog 23 #[.slice Ar nr cr0,.int .i64 (nq:Int)] X fun e w'=>e=.returned (.agg (ry rp).toArray)/\Below X.heap.size X w'):=fun X hX=>by
  rw[hrp]
  exact zvY Ar nr cr0 nq rs E.nrl X (sin_be E.rp hX)
 have HD:Hid (Dr w0 b4 b6 L X sv (bs++tops) (.slice Aq (nq+1) cq) qs2):=A.dr
 have HN64:Hid (bs.length+tops.length<=64/\qs2.length=nq+1):=⟨A.n64,A.ql⟩
 have hnqb:(nq:Int)<=50:=by have:=A.n50;omega
 have HB6:Hid (w0.heap.size<=b6):=E.b6l
 have HOK:Hid (rp.2=0->Rd cl ags ls rs R Q G st2 l2 (nx+1) qs2/\nx+1<=ls.length/\l2<l):=hok
 have HP2:Hid (p2=zgT ls m (nx+1)/\bs++on=st2.reverse):=⟨hp2,hrv⟩
 have HNO:Hid (rp.2≠0->RV=zR/\RE=rp.2/\Q=qs2):=hno
 clear e hf A E hrp hok hp2 hrv hno
 conv=>arg 2;whnf
 by_cases he:rp.2=0
 ·have HE0:Hid (rp.2=0):=he
  have heb:(rp.2 != 0)=false:=by rw[he];rfl
  have he0:¬ ¬ rp.2=0:=fun h=>h he
  clear he
  rcases hz with ⟨e24,hon⟩|⟨e24,e26,hon⟩|⟨e24,e26,hon⟩
  all_goals
   have HON:Hid (on=_):=hon
   clear hon
   go_upto_region 78 with (first
    |(go_at_call 23;refine (HAN.out X HD.out.be).mono ?_;rintro e X30 ⟨rfl,q⟩;have D30:Hid (Dr w0 b4 b6 L X30 _ (bs++tops) _ _):=HD.out.keep q;clear q)
    |(refine zdK rfl rfl ?_;intro X31 q1 q2 q3;have R31:Hid (Row X31 X30.heap.size zYr tYr):=q1;have D31:Hid (Dr w0 b4 b6 L X31 _ (bs++tops) _ _):=D30.out.keep q2;clear q1 q2 q3;simp only[Act.put,jA,jB,jC])
    |(refine zaD rfl tYr (.tmp 26) (.tmp 337) rfl X30.heap.size (ry rp) zYr tYr rfl rfl R31.out (zdS _) (by rw[zdS];exact zmT) (zuG _) ?_;intro X32 q1 q2;have D32:Hid (Dr w0 b4 b6 L X32 _ (bs++tops) _ _):=dr_set D31.out D30.out R31.out q1;have R32:Hid (Row X32 X30.heap.size (ry rp) tYr):=q2;clear q1 q2;simp only[Act.put]))
   have ge:X32.cell? ⟨X30.heap.size,4,none⟩=some (.int .i64 rp.2):=R32.out.cell 4 _ (ry_err rp)
   have HVR:Hid (X32.rangeAt X30.heap.size 0 (wq rp.1)):=ry_val R32.out
   rw[HE0.out] at ge
   go_wp2_with (first
    |(refine wpList_load_mid rfl 27 (.tmp 351) rfl X30.heap.size 0 rfl (wq rp.1) _ HVR.out Tryz.underlying27 rfl (zaU _) ?_;simp only[Act.put,jA,jB,jC])
    |(refine zbL 28 27 4 Tryz.underlying28 zcM (by decide) (by decide) rfl (.tmp 352) rfl (wq rp.1) (zaV _) rfl ?_;intro X33 q1 q2 q3;have HRW:Hid (Row X33 X32.heap.size (wq rp.1) 27):=q1;have D33:Hid (Dr w0 b4 b6 L X33 _ (bs++tops) _ _):=D32.out.keep q2;clear q1 q2 q3;simp only[Act.put,jA,jB,jC]))
   try rw[hc]
   have h2:=HOK.out HE0.out
   first
    |exact zhE (on:=on) (n:=0) ⟨rfl,rfl,rfl,rfl,rfl,rfl,rfl,rfl,rfl,rfl,.inr ⟨_,_,HON.out,rfl,HRW.out.all⟩,D33.out,HN64.out.1⟩ (nx+1) st2 h2.1 HP2.out.2 HP2.out.1 h2.2.1 h2.2.2
    |exact zhE (on:=on) (n:=0) ⟨rfl,rfl,rfl,rfl,rfl,rfl,rfl,rfl,rfl,rfl,.inl ⟨HON.out,rfl⟩,D32.out,HN64.out.1⟩ (nx+1) st2 h2.1 HP2.out.2 HP2.out.1 h2.2.1 h2.2.2
 ·obtain⟨h1,h2,h3⟩:=HNO.out he
  have HR:Hid (RV=zR/\RE=rp.2/\Q=qs2):=⟨h1,h2,h3⟩
  have heb:(rp.2 != 0)=true:=by simpa using he
  clear h1 h2 h3 hz
  go_upto_region 78 with (first
   |(go_at_call 23;refine (HAN.out X HD.out.be).mono ?_;rintro e X30 ⟨rfl,q⟩;have D30:Hid (Dr w0 b4 b6 L X30 _ (bs++tops) _ _):=HD.out.keep q;clear q)
   |(refine zdK rfl rfl ?_;intro X31 q1 q2 q3;have R31:Hid (Row X31 X30.heap.size zYr tYr):=q1;have D31:Hid (Dr w0 b4 b6 L X31 _ (bs++tops) _ _):=D30.out.keep q2;clear q1 q2 q3;simp only[Act.put,jA,jB,jC])
   |(refine zaD rfl tYr (.tmp 26) (.tmp 337) rfl X30.heap.size (ry rp) zYr tYr rfl rfl R31.out (zdS _) (by rw[zdS];exact zmT) (zuG _) ?_;intro X32 q1 q2;have D32:Hid (Dr w0 b4 b6 L X32 _ (bs++tops) _ _):=dr_set D31.out D30.out R31.out q1;have R32:Hid (Row X32 X30.heap.size (ry rp) tYr):=q2;clear q1 q2;simp only[Act.put]))
  have ge:X32.cell? ⟨X30.heap.size,4,none⟩=some (.int .i64 rp.2):=R32.out.cell 4 _ (ry_err rp)
  go_upto_region 79 with fail
  refine t79 _ rfl b6 X30.heap.size rp.2 _ rfl rfl rfl X32 D32.out.r6 ge (Nat.ne_of_lt D30.out.r6.lt) ?_
  intro l9 X40 e6 e7 e8 e9
  go_wp2_with fail
  try refine hret _ _ ?_
  refine⟨l9,Aq,cq,rfl,e6,by rw[HR.out.2.1];exact e7,?_,?_,?_,?_⟩
  ·rw[HR.out.2.2,HN64.out.2];exact e8
  ·rw[HR.out.1,e9];exact Row.drew (D32.out.r6.over rfl)
  ·rw[HR.out.2.2,e9]
   have h:=zeQ D32.out (cs:=zR) rfl
   rw[HN64.out.2] at h ⊢
   exact ztH h
  ·rw[e9];exact Below.drew (zaC D32.out.be HB6.out zR)
end
section
variable {w0:World} {pd:List (BitVec 8)} {ls:List Ins} {ags:List Nat} {rs:List (Nat × Int)} {cl:Cl} {G:Nat} {L:List Value} {Aa Ar:Option Addr} {na ca nr cr0 gk ok m ck b4 b6:Nat} {R:Except Int (Nat × Nat)} {Q:List (List Value)} {RV:List Value} {RE:Int} {Q0:Exit->Act->World->Prop} {I:Act->World->Prop}
variable {x:Ins} {l nx l2 p2 s gv cv:Nat} {st bs tops:List Nat} {qs:List (List Value)} {op:Int} {sv qv:Value} {lst:List Value} {X:World}
theorem h_24 (E:Env w0 pd ls ags rs cl G L Aa Ar na ca nr cr0 gk ok m ck b4 b6) (S:Sx ls ags rs cl G R Q m x l nx st qs bs tops l2 p2 s op) (W:Sw w0 b4 b6 L (.slice (some ⟨gk,ok,none⟩) m ck) (.slice Ar nr cr0) qv qs bs tops x.c x.p l2 p2 s op gv cv sv lst X) (hR:zcH G R=(RV,RE)) (hret:∀ a w,RP w0 b6 RV RE Q a w->Q0 .ret a w) (hcx:x.c=24) (code:Code) (hc:code=rbt) (cd:Code) (hcd:cd=rmd code):Code.wp Tryz.prog (rsr cd) (Exit.inBlock 1 (Exit.then (fun a w=>WI w0 b4 b6 L (.slice (some ⟨gk,ok,none⟩) m ck) (.slice Ar nr cr0) cl ags ls rs R Q G m a w/\Wmu a<l) Q0)) ⟨lst.toArray,[]⟩ X:=by
 have htl:tops.length=1:=by rw[S.tl,hcx];rfl
 obtain⟨a,rfl⟩:=List.length_eq_one_iff.1 htl
 have hnq:qs.length<=50:=by have:=S.rd.2.1;omega
 obtain⟨rp,hrp⟩:∃ p,p=rs.getD qs.length (0,0):=⟨_,rfl⟩
 have HQN:Hid (qs.length<=50):=hnq
 have HRP:Hid (rp=rs.getD qs.length (0,0)):=hrp
 have HOK:Hid (rp.2=0->Rd cl ags ls rs R Q G (rp.1 :: bs.reverse) l2 (nx+1) (qs++[aq 1 a 0 0 z20])/\nx+1<=ls.length/\l2<l):=fun he=>S.next E.vals (S.stU.trans (by
  rw[if_neg (by omega),if_neg (by omega),hcx,S.stk]
  show exh rs 24 (a :: bs.reverse) (nx+1) qs.length=_
  unfold exh
  rw[<-hrp,if_pos rfl,if_pos he]
  rfl)) (by omega)
 have HNO:Hid (rp.2≠0->RV=zR/\RE=rp.2/\Q=qs++[aq 1 a 0 0 z20]):=fun he=>S.err E.vals hR (S.stU.trans (by
  rw[if_neg (by omega),if_neg (by omega),hcx,S.stk]
  show exh rs 24 (a :: bs.reverse) (nx+1) qs.length=_
  unfold exh
  rw[<-hrp,if_pos rfl,if_neg he]
  rfl))
 clear hrp hnq
 have HQL:Hid ((aq 1 a 0 0 z20).length=30):=zeH _ _ _ _ _ (by simp)
 have HQA:Hid (∀ v ∈ aq 1 a 0 0 z20,v.oneCell'=true):=znY zvO
 obtain⟨f,_,e⟩:=W.open 24 (by omega) 1 rfl
 have HD:Hid (Dr w0 b4 b6 L X sv (bs++[a]) qv qs):=W.dr
 have HS:Hid (Sx ls ags rs cl G R Q m x l nx st qs bs [a] l2 p2 s op):=S
 have HE:Hid (Env w0 pd ls ags rs cl G L Aa Ar na ca nr cr0 gk ok m ck b4 b6):=E
 have HV:Hid (Lw X 27 4 (.slice (some ⟨gv,0,none⟩) 1 cv) 1 (fw [a])):=W.v
 have hkb:(bs.length:Int)<=64:=by have:=S.n64;omega
 have hlb:(l2:Int)<=10000:=by have:=S.l2b;omega
 rw[e]
 clear e S W E
 unfold frc
 conv=>arg 2;whnf
 have HV0:Hid (X.rangeAt gv 0 (wq a)):=zcB HV.out 0 a rfl
 go_upto_region 65 with fail
 go_wp2_with (first
  |(refine wpList_load_mid rfl 27 (.tmp 280) rfl gv 0 rfl (wq a) _ HV0.out Tryz.underlying27 rfl (zaU _) ?_;simp only[Act.put,jA,jB,jC])
  |(refine zbU rfl tAk _ rfl [(0,.int .i64 1),(1,.agg (wq a).toArray)] rfl (aq 1 a 0 0 z20) (zoB a) ?_;simp only[Act.put,jA,jB,jC])
  |(refine zbL znN tAk 30 Tryz.underlying37 zgH (by decide) (by decide) rfl (.tmp 282) rfl (aq 1 a 0 0 z20) HQL.out rfl ?_;intro X9 q1 q2 q3;have HRQ:Hid (Row X9 X.heap.size (aq 1 a 0 0 z20) tAk):=q1;have D9:Hid (Dr w0 b4 b6 L X9 _ (bs++[a]) qv qs):=HD.out.keep q2;clear q1 q2 q3;simp only[Act.put,jA,jB,jC])
  |(refine zdU znN tAk 30 104 Tryz.underlying37 zdX (by decide) (by decide) rfl (.tmp 278) (.tmp 283) rfl qv qs.length qs.flatten (aq 1 a 0 0 z20) rfl D9.out.aq X.heap.size HQL.out rfl HRQ.out.all HQA.out (by have:=HQN.out;omega) ?_;intro qv2 X10 q1 q2 q3;have D10:Hid (Dr w0 b4 b6 L X10 sv (bs++[a]) qv2 (qs++[aq 1 a 0 0 z20])):=zsJ D9.out q2 q1 q3;clear q1 q2 q3;simp only[Act.put,jA,jB,jC]))
 obtain⟨Aq,cq,hqv,_,_⟩:=Lw.form D10.out.aq
 rw[List.length_append,List.length_singleton] at hqv
 subst hqv
 try rw[hcd]
 refine zzA (z:=24) (on:=[rp.1]) (st2:=rp.1 :: bs.reverse) (sv:=sv) (bs:=bs) (tops:=[a]) (Aq:=Aq) (cq:=cq) HE.out ?_ (by decide) rp HRP.out (.inl ⟨rfl,rfl⟩) HOK.out HS.out.ep (by simp) HNO.out hret code hc
 exact⟨rfl,rfl,rfl,rfl,rfl,rfl,rfl,rfl,rfl,rfl,rfl,rfl,D10.out,HS.out.n64,by rw[List.length_append,List.length_singleton],HQN.out⟩
theorem h_25 (E:Env w0 pd ls ags rs cl G L Aa Ar na ca nr cr0 gk ok m ck b4 b6) (S:Sx ls ags rs cl G R Q m x l nx st qs bs tops l2 p2 s op) (W:Sw w0 b4 b6 L (.slice (some ⟨gk,ok,none⟩) m ck) (.slice Ar nr cr0) qv qs bs tops x.c x.p l2 p2 s op gv cv sv lst X) (hR:zcH G R=(RV,RE)) (hret:∀ a w,RP w0 b6 RV RE Q a w->Q0 .ret a w) (hcx:x.c=25) (code:Code) (hc:code=rbt) (cd:Code) (hcd:cd=rmd code):Code.wp Tryz.prog (rsr cd) (Exit.inBlock 1 (Exit.then (fun a w=>WI w0 b4 b6 L (.slice (some ⟨gk,ok,none⟩) m ck) (.slice Ar nr cr0) cl ags ls rs R Q G m a w/\Wmu a<l) Q0)) ⟨lst.toArray,[]⟩ X:=by
 have htl:tops.length=2:=by rw[S.tl,hcx];rfl
 obtain⟨a,b,rfl⟩:=zgV htl
 have hnq:qs.length<=50:=by have:=S.rd.2.1;omega
 obtain⟨rp,hrp⟩:∃ p,p=rs.getD qs.length (0,0):=⟨_,rfl⟩
 have HQN:Hid (qs.length<=50):=hnq
 have HRP:Hid (rp=rs.getD qs.length (0,0)):=hrp
 have HOK:Hid (rp.2=0->Rd cl ags ls rs R Q G (bs.reverse) l2 (nx+1) (qs++[aq 2 a b 0 z20])/\nx+1<=ls.length/\l2<l):=fun he=>S.next E.vals (S.stU.trans (by
  rw[if_neg (by omega),if_neg (by omega),hcx,S.stk]
  show exh rs 25 (b :: a :: bs.reverse) (nx+1) qs.length=_
  unfold exh
  rw[<-hrp,if_neg (by decide),if_pos rfl,if_pos he]
  rfl)) (by omega)
 have HNO:Hid (rp.2≠0->RV=zR/\RE=rp.2/\Q=qs++[aq 2 a b 0 z20]):=fun he=>S.err E.vals hR (S.stU.trans (by
  rw[if_neg (by omega),if_neg (by omega),hcx,S.stk]
  show exh rs 25 (b :: a :: bs.reverse) (nx+1) qs.length=_
  unfold exh
  rw[<-hrp,if_neg (by decide),if_pos rfl,if_neg he]
  rfl))
 clear hrp hnq
 obtain⟨f,_,e⟩:=W.open 25 (by omega) 2 rfl
 have HD:Hid (Dr w0 b4 b6 L X sv (bs++[a,b]) qv qs):=W.dr
 have HS:Hid (Sx ls ags rs cl G R Q m x l nx st qs bs [a,b] l2 p2 s op):=S
 have HE:Hid (Env w0 pd ls ags rs cl G L Aa Ar na ca nr cr0 gk ok m ck b4 b6):=E
 have HV:Hid (Lw X 27 4 (.slice (some ⟨gv,0,none⟩) 2 cv) 2 (fw [a,b])):=W.v
 have hkb:(bs.length:Int)<=64:=by have:=S.n64;omega
 have hlb:(l2:Int)<=10000:=by have:=S.l2b;omega
 rw[e]
 clear e S W E
 unfold frc
 conv=>arg 2;whnf
 have HV0:Hid (X.rangeAt gv 0 (wq a)):=zcB HV.out 0 a rfl
 have HV1:Hid (X.rangeAt gv 4 (wq b)):=zcB HV.out 1 b rfl
 go_upto_region 67 with fail
 refine t67 _ rfl gv cv a b qv rfl rfl X HV0.out HV1.out HD.out (Nat.le_trans HQN.out (by decide)) ?_
 intro l9 X10 qv2 h9 hw e10 q
 have D10:Hid (Dr w0 b4 b6 L X10 sv (bs++[a,b]) qv2 (qs++[aq 2 a b 0 z20])):=q
 clear q
 obtain⟨f9,hf9⟩:∃ f9:Nat->Value,f9=fun k=>l9.getD k undef:=⟨_,rfl⟩
 rw[show l9.getD 10 undef=f9 10 by rw[hf9]] at e10
 rw[zfJ bs67 _ l9 0 f9 (by rw[h9];rfl) (fun k=>by rw[Nat.zero_add,hf9]) hw]
 unfold bs67
 simp only[zlL,cond_true,cond_false,Nat.reduceAdd]
 rw[e10]
 clear hw h9 hf9 e10
 obtain⟨Aq,cq,hqv,_,_⟩:=Lw.form D10.out.aq
 rw[List.length_append,List.length_singleton] at hqv
 subst hqv
 go_wp2_with fail
 try rw[hcd]
 refine zzA (z:=25) (on:=[]) (st2:=bs.reverse) (sv:=sv) (bs:=bs) (tops:=[a,b]) (Aq:=Aq) (cq:=cq) HE.out ?_ (by decide) rp HRP.out (.inr (.inr ⟨rfl,rfl,rfl⟩)) HOK.out HS.out.ep (by simp) HNO.out hret code hc
 exact⟨rfl,rfl,rfl,rfl,rfl,rfl,rfl,rfl,rfl,rfl,rfl,rfl,D10.out,HS.out.n64,by rw[List.length_append,List.length_singleton],HQN.out⟩
theorem h_26 (E:Env w0 pd ls ags rs cl G L Aa Ar na ca nr cr0 gk ok m ck b4 b6) (S:Sx ls ags rs cl G R Q m x l nx st qs bs tops l2 p2 s op) (W:Sw w0 b4 b6 L (.slice (some ⟨gk,ok,none⟩) m ck) (.slice Ar nr cr0) qv qs bs tops x.c x.p l2 p2 s op gv cv sv lst X) (hR:zcH G R=(RV,RE)) (hret:∀ a w,RP w0 b6 RV RE Q a w->Q0 .ret a w) (hcx:x.c=26) (ht0:∀ a b,tops=[a,b]->a<64) (code:Code) (hc:code=rbt) (cd:Code) (hcd:cd=rmd code):Code.wp Tryz.prog (rsr cd) (Exit.inBlock 1 (Exit.then (fun a w=>WI w0 b4 b6 L (.slice (some ⟨gk,ok,none⟩) m ck) (.slice Ar nr cr0) cl ags ls rs R Q G m a w/\Wmu a<l) Q0)) ⟨lst.toArray,[]⟩ X:=by
 have htl:tops.length=2:=by rw[S.tl,hcx];rfl
 obtain⟨a,b,rfl⟩:=zgV htl
 have ht:=ht0 a b rfl
 have hnq:qs.length<=50:=by have:=S.rd.2.1;omega
 obtain⟨rp,hrp⟩:∃ p,p=rs.getD qs.length (0,0):=⟨_,rfl⟩
 have HQN:Hid (qs.length<=50):=hnq
 have HRP:Hid (rp=rs.getD qs.length (0,0)):=hrp
 have HOK:Hid (rp.2=0->Rd cl ags ls rs R Q G (rp.1 :: bs.reverse) l2 (nx+1) (qs++[aq 3 0 0 a (adr b)])/\nx+1<=ls.length/\l2<l):=fun he=>S.next E.vals (S.stU.trans (by
  rw[if_neg (by omega),if_neg (by omega),hcx,S.stk]
  show exh rs 26 (b :: a :: bs.reverse) (nx+1) qs.length=_
  unfold exh
  rw[<-hrp,if_neg (by decide),if_neg (by decide),if_pos rfl,if_pos (by exact ht),if_pos he]
  rfl)) (by omega)
 have HNO:Hid (rp.2≠0->RV=zR/\RE=rp.2/\Q=qs++[aq 3 0 0 a (adr b)]):=fun he=>S.err E.vals hR (S.stU.trans (by
  rw[if_neg (by omega),if_neg (by omega),hcx,S.stk]
  show exh rs 26 (b :: a :: bs.reverse) (nx+1) qs.length=_
  unfold exh
  rw[<-hrp,if_neg (by decide),if_neg (by decide),if_pos rfl,if_pos (by exact ht),if_neg he]
  rfl))
 clear hrp hnq
 have HTK:Hid (∀ X,Calls Tryz.prog 20 #[.agg (wq a).toArray] X fun e w'=>e=.returned (.int .i64 (a:Int))/\Below X.heap.size X w'):=fun X=>by
  have:=zgQ a (S.lt a (by simp)) X
  rwa [if_pos ht] at this
 have HAD:Hid (∀ X,Calls Tryz.prog 21 #[.agg (wq b).toArray] X fun e w'=>e=.returned (.agg (adr b).toArray)/\Below X.heap.size X w'):=fun X=>zhR b X
 have hx0n:¬ (a:Int)<0:=by omega
 have hx0b:(a:Int)<64:=by omega
 have HQL:Hid ((aq 3 0 0 a (adr b)).length=30):=zeH _ _ _ _ _ (zdL _)
 have HQA:Hid (∀ v ∈ aq 3 0 0 a (adr b),v.oneCell'=true):=znY zrF
 clear ht ht0
 obtain⟨f,_,e⟩:=W.open 26 (by omega) 2 rfl
 have HD:Hid (Dr w0 b4 b6 L X sv (bs++[a,b]) qv qs):=W.dr
 have HS:Hid (Sx ls ags rs cl G R Q m x l nx st qs bs [a,b] l2 p2 s op):=S
 have HE:Hid (Env w0 pd ls ags rs cl G L Aa Ar na ca nr cr0 gk ok m ck b4 b6):=E
 have HV:Hid (Lw X 27 4 (.slice (some ⟨gv,0,none⟩) 2 cv) 2 (fw [a,b])):=W.v
 have hkb:(bs.length:Int)<=64:=by have:=S.n64;omega
 have hlb:(l2:Int)<=10000:=by have:=S.l2b;omega
 rw[e]
 clear e S W E
 unfold frc
 conv=>arg 2;whnf
 have HV0:Hid (X.rangeAt gv 0 (wq a)):=zcB HV.out 0 a rfl
 have HV1:Hid (X.rangeAt gv 4 (wq b)):=zcB HV.out 1 b rfl
 go_upto_region 70 with fail
 go_upto_region 73 with (first
  |(refine wpList_load_mid rfl 27 (.tmp 301) rfl gv 0 rfl (wq a) _ HV0.out Tryz.underlying27 rfl (zaU _) ?_;simp only[Act.put,jA,jB,jC])
  |(go_at_call 20;refine (HTK.out X).mono ?_;rintro e X9 ⟨rfl,q⟩;have D9:Hid (Dr w0 b4 b6 L X9 sv (bs++[a,b]) qv qs):=HD.out.keep q;have B9:Hid (Below X.heap.size X X9):=q;clear q))
 have HV1b:Hid (X9.rangeAt gv 4 (wq b)):=zaS HV1.out B9.out
 go_wp2_with (first
  |(refine wpList_load_mid rfl 27 (.tmp 313) rfl gv 4 rfl (wq b) _ HV1b.out Tryz.underlying27 rfl (zaU _) ?_;simp only[Act.put,jA,jB,jC])
  |(go_at_call 21;refine (HAD.out X9).mono ?_;rintro e X10 ⟨rfl,q⟩;have D10:Hid (Dr w0 b4 b6 L X10 _ (bs++[a,b]) qv qs):=D9.out.keep q;clear q)
  |(refine zbU rfl tAk _ rfl [(0,.int .i64 3),(3,.int .i64 (a:Int)),(4,.agg (adr b).toArray)] rfl (aq 3 0 0 a (adr b)) (zoA a (adr b) (zdL b)) ?_;simp only[Act.put,jA,jB,jC])
  |(refine zbL znN tAk 30 Tryz.underlying37 zgH (by decide) (by decide) rfl (.tmp 316) rfl (aq 3 0 0 a (adr b)) HQL.out rfl ?_;intro X11 q1 q2 q3;have HRQ:Hid (Row X11 X10.heap.size (aq 3 0 0 a (adr b)) tAk):=q1;have D11:Hid (Dr w0 b4 b6 L X11 _ (bs++[a,b]) qv qs):=D10.out.keep q2;clear q1 q2 q3;simp only[Act.put,jA,jB,jC])
  |(refine zdU znN tAk 30 104 Tryz.underlying37 zdX (by decide) (by decide) rfl (.tmp 310) (.tmp 317) rfl qv qs.length qs.flatten (aq 3 0 0 a (adr b)) rfl D11.out.aq X10.heap.size HQL.out rfl HRQ.out.all HQA.out (by have:=HQN.out;omega) ?_;intro qv2 X12 q1 q2 q3;have D12:Hid (Dr w0 b4 b6 L X12 sv (bs++[a,b]) qv2 (qs++[aq 3 0 0 a (adr b)])):=zsJ D11.out q2 q1 q3;clear q1 q2 q3;simp only[Act.put,jA,jB,jC]))
 obtain⟨Aq,cq,hqv,_,_⟩:=Lw.form D12.out.aq
 rw[List.length_append,List.length_singleton] at hqv
 subst hqv
 try rw[hcd]
 refine zzA (z:=26) (on:=[rp.1]) (st2:=rp.1 :: bs.reverse) (sv:=sv) (bs:=bs) (tops:=[a,b]) (Aq:=Aq) (cq:=cq) HE.out ?_ (by decide) rp HRP.out (.inr (.inl ⟨rfl,rfl,rfl⟩)) HOK.out HS.out.ep (by simp) HNO.out hret code hc
 exact⟨rfl,rfl,rfl,rfl,rfl,rfl,rfl,rfl,rfl,rfl,rfl,rfl,D12.out,HS.out.n64,by rw[List.length_append,List.length_singleton],HQN.out⟩
theorem h_26n (E:Env w0 pd ls ags rs cl G L Aa Ar na ca nr cr0 gk ok m ck b4 b6) (S:Sx ls ags rs cl G R Q m x l nx st qs bs tops l2 p2 s op) (W:Sw w0 b4 b6 L (.slice (some ⟨gk,ok,none⟩) m ck) (.slice Ar nr cr0) qv qs bs tops x.c x.p l2 p2 s op gv cv sv lst X) (hR:zcH G R=(RV,RE)) (hret:∀ a w,RP w0 b6 RV RE Q a w->Q0 .ret a w) (hcx:x.c=26) (ht0:∀ a b,tops=[a,b]->¬ a<64) (cd:Code):Code.wp Tryz.prog (rsr cd) (Exit.inBlock 1 (Exit.then (fun a w=>WI w0 b4 b6 L (.slice (some ⟨gk,ok,none⟩) m ck) (.slice Ar nr cr0) cl ags ls rs R Q G m a w/\Wmu a<l) Q0)) ⟨lst.toArray,[]⟩ X:=by
 have htl:tops.length=2:=by rw[S.tl,hcx];rfl
 obtain⟨a,b,rfl⟩:=zgV htl
 have ht:=ht0 a b rfl
 have HTK:Hid (∀ X,Calls Tryz.prog 20 #[.agg (wq a).toArray] X fun e w'=>e=.returned (.int .i64 (-1))/\Below X.heap.size X w'):=fun X=>by
  have:=zgQ a (S.lt a (by simp)) X
  rwa [if_neg ht] at this
 have HR:Hid (RV=zR/\RE=104/\Q=qs++[]):=S.err E.vals hR (S.stU.trans (by
  rw[if_neg (by omega),if_neg (by omega),hcx,S.stk]
  show exh rs 26 (b :: a :: bs.reverse) (nx+1) qs.length=_
  unfold exh
  rw[if_neg (by decide),if_neg (by decide),if_pos rfl,if_neg (by exact ht)]))
 clear ht ht0
 obtain⟨f,_,e⟩:=W.open 26 (by omega) 2 rfl
 have HD:Hid (Dr w0 b4 b6 L X sv (bs++[a,b]) qv qs):=W.dr
 have HS:Hid (Sx ls ags rs cl G R Q m x l nx st qs bs [a,b] l2 p2 s op):=S
 have HE:Hid (Env w0 pd ls ags rs cl G L Aa Ar na ca nr cr0 gk ok m ck b4 b6):=E
 have HV:Hid (Lw X 27 4 (.slice (some ⟨gv,0,none⟩) 2 cv) 2 (fw [a,b])):=W.v
 have hkb:(bs.length:Int)<=64:=by have:=S.n64;omega
 have hlb:(l2:Int)<=10000:=by have:=S.l2b;omega
 rw[e]
 clear e S W E
 unfold frc
 conv=>arg 2;whnf
 have HV0:Hid (X.rangeAt gv 0 (wq a)):=zcB HV.out 0 a rfl
 go_upto_region 70 with fail
 go_upto_region 71 with (first
  |(refine wpList_load_mid rfl 27 (.tmp 301) rfl gv 0 rfl (wq a) _ HV0.out Tryz.underlying27 rfl (zaU _) ?_;simp only[Act.put,jA,jB,jC])
  |(go_at_call 20;refine (HTK.out X).mono ?_;rintro e X9 ⟨rfl,q⟩;have D9:Hid (Dr w0 b4 b6 L X9 sv (bs++[a,b]) qv qs):=HD.out.keep q;clear q))
 go_wp2_with (refine zaD rfl 35 (.tmp 6) (.tmp 306) rfl b6 zR zR 35 rfl rfl D9.out.r6 rfl zaP zcW ?_;intro XE (E9:Hid (XE=X9.setCells b6 0 zR)) (R9:Hid (Row XE b6 zR 35));simp only[Act.put])
 try refine hret _ _ ?_
 exact (zzE rfl (by rw[HR.out.2.1];rfl) rfl D9.out E9.out R9.out HE.out.b6l HR.out.1 (by rw[HR.out.2.2,List.append_nil]))
theorem h_27 (E:Env w0 pd ls ags rs cl G L Aa Ar na ca nr cr0 gk ok m ck b4 b6) (S:Sx ls ags rs cl G R Q m x l nx st qs bs tops l2 p2 s op) (W:Sw w0 b4 b6 L (.slice (some ⟨gk,ok,none⟩) m ck) (.slice Ar nr cr0) qv qs bs tops x.c x.p l2 p2 s op gv cv sv lst X) (hR:zcH G R=(RV,RE)) (hret:∀ a w,RP w0 b6 RV RE Q a w->Q0 .ret a w) (hcx:x.c=27) (ht0:∀ a b d,tops=[a,b,d]->a<64) (code:Code) (hc:code=rbt) (cd:Code) (hcd:cd=rmd code):Code.wp Tryz.prog (rsr cd) (Exit.inBlock 1 (Exit.then (fun a w=>WI w0 b4 b6 L (.slice (some ⟨gk,ok,none⟩) m ck) (.slice Ar nr cr0) cl ags ls rs R Q G m a w/\Wmu a<l) Q0)) ⟨lst.toArray,[]⟩ X:=by
 have htl:tops.length=3:=by rw[S.tl,hcx];rfl
 obtain⟨a,b,d,rfl⟩:=len3H htl
 have ht:=ht0 a b d rfl
 have hnq:qs.length<=50:=by have:=S.rd.2.1;omega
 obtain⟨rp,hrp⟩:∃ p,p=rs.getD qs.length (0,0):=⟨_,rfl⟩
 have HQN:Hid (qs.length<=50):=hnq
 have HRP:Hid (rp=rs.getD qs.length (0,0)):=hrp
 have HOK:Hid (rp.2=0->Rd cl ags ls rs R Q G (bs.reverse) l2 (nx+1) (qs++[aq 4 d 0 a (adr b)])/\nx+1<=ls.length/\l2<l):=fun he=>S.next E.vals (S.stU.trans (by
  rw[if_neg (by omega),if_neg (by omega),hcx,S.stk]
  show exh rs 27 (d :: b :: a :: bs.reverse) (nx+1) qs.length=_
  unfold exh
  rw[<-hrp,if_neg (by decide),if_neg (by decide),if_neg (by decide),if_pos (by exact ht),if_pos he]
  rfl)) (by omega)
 have HNO:Hid (rp.2≠0->RV=zR/\RE=rp.2/\Q=qs++[aq 4 d 0 a (adr b)]):=fun he=>S.err E.vals hR (S.stU.trans (by
  rw[if_neg (by omega),if_neg (by omega),hcx,S.stk]
  show exh rs 27 (d :: b :: a :: bs.reverse) (nx+1) qs.length=_
  unfold exh
  rw[<-hrp,if_neg (by decide),if_neg (by decide),if_neg (by decide),if_pos (by exact ht),if_neg he]
  rfl))
 clear hrp hnq
 have HTK:Hid (∀ X,Calls Tryz.prog 20 #[.agg (wq a).toArray] X fun e w'=>e=.returned (.int .i64 (a:Int))/\Below X.heap.size X w'):=fun X=>by
  have:=zgQ a (S.lt a (by simp)) X
  rwa [if_pos ht] at this
 have HAD:Hid (∀ X,Calls Tryz.prog 21 #[.agg (wq b).toArray] X fun e w'=>e=.returned (.agg (adr b).toArray)/\Below X.heap.size X w'):=fun X=>zhR b X
 have hx0n:¬ (a:Int)<0:=by omega
 have hx0b:(a:Int)<64:=by omega
 clear ht ht0
 obtain⟨f,_,e⟩:=W.open 27 (by omega) 3 rfl
 have HD:Hid (Dr w0 b4 b6 L X sv (bs++[a,b,d]) qv qs):=W.dr
 have HS:Hid (Sx ls ags rs cl G R Q m x l nx st qs bs [a,b,d] l2 p2 s op):=S
 have HE:Hid (Env w0 pd ls ags rs cl G L Aa Ar na ca nr cr0 gk ok m ck b4 b6):=E
 have HV:Hid (Lw X 27 4 (.slice (some ⟨gv,0,none⟩) 3 cv) 3 (fw [a,b,d])):=W.v
 have hkb:(bs.length:Int)<=64:=by have:=S.n64;omega
 have hlb:(l2:Int)<=10000:=by have:=S.l2b;omega
 rw[e]
 clear e S W E
 unfold frc
 conv=>arg 2;whnf
 have HV0:Hid (X.rangeAt gv 0 (wq a)):=zcB HV.out 0 a rfl
 have HV1:Hid (X.rangeAt gv 4 (wq b)):=zcB HV.out 1 b rfl
 have HV2:Hid (X.rangeAt gv 8 (wq d)):=zcB HV.out 2 d rfl
 go_upto_region 70 with fail
 go_upto_region 75 with (first
  |(refine wpList_load_mid rfl 27 (.tmp 301) rfl gv 0 rfl (wq a) _ HV0.out Tryz.underlying27 rfl (zaU _) ?_;simp only[Act.put,jA,jB,jC])
  |(go_at_call 20;refine (HTK.out X).mono ?_;rintro e X9 ⟨rfl,q⟩;have D9:Hid (Dr w0 b4 b6 L X9 sv (bs++[a,b,d]) qv qs):=HD.out.keep q;have B9:Hid (Below X.heap.size X X9):=q;clear q))
 refine t75 _ rfl gv cv a b d qv rfl rfl rfl X9 (zaS HV1.out B9.out) (zaS HV2.out B9.out) HAD.out D9.out (Nat.le_trans HQN.out (by decide)) ?_
 intro l9 X12 qv2 h9 hw e10 q
 have D12:Hid (Dr w0 b4 b6 L X12 sv (bs++[a,b,d]) qv2 (qs++[aq 4 d 0 a (adr b)])):=q
 clear q
 obtain⟨f9,hf9⟩:∃ f9:Nat->Value,f9=fun k=>l9.getD k undef:=⟨_,rfl⟩
 rw[show l9.getD 10 undef=f9 10 by rw[hf9]] at e10
 rw[zfJ bs75 _ l9 0 f9 (by rw[h9];rfl) (fun k=>by rw[Nat.zero_add,hf9]) hw]
 unfold bs75
 simp only[zlL,cond_true,cond_false,Nat.reduceAdd]
 rw[e10]
 clear hw h9 hf9 e10
 obtain⟨Aq,cq,hqv,_,_⟩:=Lw.form D12.out.aq
 rw[List.length_append,List.length_singleton] at hqv
 subst hqv
 go_wp2_with fail
 try rw[hcd]
 refine zzA (z:=27) (on:=[]) (st2:=bs.reverse) (sv:=sv) (bs:=bs) (tops:=[a,b,d]) (Aq:=Aq) (cq:=cq) HE.out ?_ (by decide) rp HRP.out (.inr (.inr ⟨rfl,rfl,rfl⟩)) HOK.out HS.out.ep (by simp) HNO.out hret code hc
 exact⟨rfl,rfl,rfl,rfl,rfl,rfl,rfl,rfl,rfl,rfl,rfl,rfl,D12.out,HS.out.n64,by rw[List.length_append,List.length_singleton],HQN.out⟩
theorem h_27n (E:Env w0 pd ls ags rs cl G L Aa Ar na ca nr cr0 gk ok m ck b4 b6) (S:Sx ls ags rs cl G R Q m x l nx st qs bs tops l2 p2 s op) (W:Sw w0 b4 b6 L (.slice (some ⟨gk,ok,none⟩) m ck) (.slice Ar nr cr0) qv qs bs tops x.c x.p l2 p2 s op gv cv sv lst X) (hR:zcH G R=(RV,RE)) (hret:∀ a w,RP w0 b6 RV RE Q a w->Q0 .ret a w) (hcx:x.c=27) (ht0:∀ a b d,tops=[a,b,d]->¬ a<64) (cd:Code):Code.wp Tryz.prog (rsr cd) (Exit.inBlock 1 (Exit.then (fun a w=>WI w0 b4 b6 L (.slice (some ⟨gk,ok,none⟩) m ck) (.slice Ar nr cr0) cl ags ls rs R Q G m a w/\Wmu a<l) Q0)) ⟨lst.toArray,[]⟩ X:=by
 have htl:tops.length=3:=by rw[S.tl,hcx];rfl
 obtain⟨a,b,d,rfl⟩:=len3H htl
 have ht:=ht0 a b d rfl
 have HTK:Hid (∀ X,Calls Tryz.prog 20 #[.agg (wq a).toArray] X fun e w'=>e=.returned (.int .i64 (-1))/\Below X.heap.size X w'):=fun X=>by
  have:=zgQ a (S.lt a (by simp)) X
  rwa [if_neg ht] at this
 have HR:Hid (RV=zR/\RE=104/\Q=qs++[]):=S.err E.vals hR (S.stU.trans (by
  rw[if_neg (by omega),if_neg (by omega),hcx,S.stk]
  show exh rs 27 (d :: b :: a :: bs.reverse) (nx+1) qs.length=_
  unfold exh
  rw[if_neg (by decide),if_neg (by decide),if_neg (by decide),if_neg (by exact ht)]))
 clear ht ht0
 obtain⟨f,_,e⟩:=W.open 27 (by omega) 3 rfl
 have HD:Hid (Dr w0 b4 b6 L X sv (bs++[a,b,d]) qv qs):=W.dr
 have HS:Hid (Sx ls ags rs cl G R Q m x l nx st qs bs [a,b,d] l2 p2 s op):=S
 have HE:Hid (Env w0 pd ls ags rs cl G L Aa Ar na ca nr cr0 gk ok m ck b4 b6):=E
 have HV:Hid (Lw X 27 4 (.slice (some ⟨gv,0,none⟩) 3 cv) 3 (fw [a,b,d])):=W.v
 have hkb:(bs.length:Int)<=64:=by have:=S.n64;omega
 have hlb:(l2:Int)<=10000:=by have:=S.l2b;omega
 rw[e]
 clear e S W E
 unfold frc
 conv=>arg 2;whnf
 have HV0:Hid (X.rangeAt gv 0 (wq a)):=zcB HV.out 0 a rfl
 go_upto_region 70 with fail
 go_upto_region 71 with (first
  |(refine wpList_load_mid rfl 27 (.tmp 301) rfl gv 0 rfl (wq a) _ HV0.out Tryz.underlying27 rfl (zaU _) ?_;simp only[Act.put,jA,jB,jC])
  |(go_at_call 20;refine (HTK.out X).mono ?_;rintro e X9 ⟨rfl,q⟩;have D9:Hid (Dr w0 b4 b6 L X9 sv (bs++[a,b,d]) qv qs):=HD.out.keep q;clear q))
 go_wp2_with (refine zaD rfl 35 (.tmp 6) (.tmp 306) rfl b6 zR zR 35 rfl rfl D9.out.r6 rfl zaP zcW ?_;intro XE (E9:Hid (XE=X9.setCells b6 0 zR)) (R9:Hid (Row XE b6 zR 35));simp only[Act.put])
 try refine hret _ _ ?_
 exact (zzE rfl (by rw[HR.out.2.1];rfl) rfl D9.out E9.out R9.out HE.out.b6l HR.out.1 (by rw[HR.out.2.2,List.append_nil]))
end
theorem dr_stk {w0 w w':World} {b4 b6:Nat} {L:List Value} {g m cp:Nat} {ss ss2:List Nat} {qv:Value} {qs:List (List Value)} (H:Dr w0 b4 b6 L w (.slice (some ⟨g,0,none⟩) m cp) ss qv qs) (S0:Lw w 27 4 (.slice (some ⟨g,0,none⟩) m cp) m (fw ss)) (k:Gro (·=g) w w') (hs:Lw w' 27 4 (.slice (some ⟨g,0,none⟩) m cp) ss2.length (fw ss2)):Dr w0 b4 b6 L w' (.slice (some ⟨g,0,none⟩) m cp) ss2 qv qs:=by
 obtain⟨cur,hrow⟩:=Lw.row S0
 have na:∀ q,qv.ownBlock=some q->¬ q=g:=fun q e=>Lw.ne H.aq hrow (by decide) q e
 exact⟨H.be.trans (k.to_below H.be.size (fun q e=>by rw[e];exact H.so g rfl)),k.row H.r4 (Lw.ne H.st H.r4 (by decide) g rfl).symm,k.row H.r6 (Lw.ne H.st H.r6 (by decide) g rfl).symm,hs,H.so,Lw.gro H.aq k na,H.ao⟩
def bs45:List Bool:=[false,false,false,false,false,false,false,false,false,false,false,false,false,false,false,false,false,false,false,false,false,false,false,false,false,false,false,false,false,false,false,false,false,false,false,false,false,false,false,false,false,false,false,false,false,false,false,false,false,false,false,false,false,false,false,false,false,false,false,false,false,false,false,false,false,false,false,false,false,false,false,false,false,false,false,false,false,false,false,false,false,false,false,false,false,false,false,false,false,false,false,false,false,false,false,false,false,false,false,false,false,false,false,false,false,false,false,false,false,false,false,false,false,false,false,false,false,false,false,false,false,false,false,false,false,false,false,false,false,false,false,false,false,false,false,false,false,false,false,false,false,false,false,false,false,false,false,false,false,false,false,false,false,false,false,false,false,false,false,false,false,false,false,false,false,false,false,false,false,false,false,false,false,false,false,false,false,false,false,false,false,false,false,false,false,false,false,false,false,false,false,false,false,false,false,false,false,false,false,false,false,false,true,true,true,true,true,true,true,true,true,true,true,true,true,true,true,true,true,true,true,true,true,true,true,true,true,true,false,false,false,false,false,false,false,false,false,false,false,false,false,false,false,false,false,false,false,false,false,false,false,false,false,false,false,false,false,false,false,false,false,false,false,false,false,false,false,false,false,false,false,false,false,false,false,false,false,false,false,false,false,false,false,false,false,false,false,false,false,false,false,false,false,false,false,false,false,false,false,false,false,false,false,false,false,false,false,false,false,false,false,false,false,false,false,false,false,false,false,false,false,false,false,false,false,false,false,false,false,false,false,false,false,false,false,false,false,false,false,false,false,false,false,false,false,false,false,false,false,false,false,false,false,false,false,false,false,false,false,false,false,false]
theorem t45 (l:List Value) (hl:l.length=362) (g k cp k1 m ni x y:Nat) (h9:l.getD 9 undef=.slice (some ⟨g,0,none⟩) k cp) (h15:l.getD 15 undef=.int .i64 (ni:Int)) (X:World) {w0:World} {b4 b6:Nat} {L:List Value} {ss:List Nat} {qv:Value} {qs:List (List Value)} (D:Dr w0 b4 b6 L X (.slice (some ⟨g,0,none⟩) k cp) ss qv qs) (hk:k=ss.length) (hkl:k<=64) (e1:(k:Int)-1=(k1:Int)) (e2:(k1:Int)-(ni:Int)=(m:Int)) (hmk:m<k1) (hx:ss[m]?=some x) (hy:ss[k1]?=some y) {Q:Exit->Act->World->Prop}
 (hK:∀ (l':List Value) (X':World),l'.length=362->zhI l' bs45=zhI l bs45->Dr w0 b4 b6 L X' (.slice (some ⟨g,0,none⟩) k cp) ((ss.set k1 x).set m y) qv qs->Q .normal ⟨l'.toArray,[]⟩ X'):(rg 45).wp Tryz.prog Q ⟨l.toArray,[]⟩ X:=by
 obtain⟨f,hf,hl2⟩:=zfS l hl
 have e9:=h9
 rw[show l.getD 9 undef=f 9 by rw[hf]] at e9
 have e15:=h15
 rw[show l.getD 15 undef=f 15 by rw[hf]] at e15
 rw[hl2] at hK ⊢
 dsimp only at hK ⊢
 rw[e9,e15] at hK ⊢
 have HK:Hid _:=hK
 have HD:Hid (Dr w0 b4 b6 L X (.slice (some ⟨g,0,none⟩) k cp) ss qv qs):=D
 have HKK:Hid (k=ss.length):=hk
 have hkk:k1<k:=by omega
 have hmk2:m<k:=by omega
 have hw1:IntKind.i64.wrap (k1:Int)=(k1:Int):=by rw[IntKind.wrap_i64];omega
 have hw2:IntKind.i64.wrap (m:Int)=(m:Int):=by rw[IntKind.wrap_i64];omega
 have hnl:ni<=64:=by omega
 have hst:=D.st
 rw[<-hk] at hst
 have HST:Hid (Lw X 27 4 (.slice (some ⟨g,0,none⟩) k cp) k (fw ss)):=hst
 obtain⟨x0,hx0⟩:∃ a,a=((lim x 0:Nat):Int):=⟨_,rfl⟩
 obtain⟨x1,hx1⟩:∃ a,a=((lim x 1:Nat):Int):=⟨_,rfl⟩
 obtain⟨x2,hx2⟩:∃ a,a=((lim x 2:Nat):Int):=⟨_,rfl⟩
 obtain⟨x3,hx3⟩:∃ a,a=((lim x 3:Nat):Int):=⟨_,rfl⟩
 obtain⟨y0,hy0⟩:∃ a,a=((lim y 0:Nat):Int):=⟨_,rfl⟩
 obtain⟨y1,hy1⟩:∃ a,a=((lim y 1:Nat):Int):=⟨_,rfl⟩
 obtain⟨y2,hy2⟩:∃ a,a=((lim y 2:Nat):Int):=⟨_,rfl⟩
 obtain⟨y3,hy3⟩:∃ a,a=((lim y 3:Nat):Int):=⟨_,rfl⟩
 have HX:Hid (wq x=[.int .u64 x0,.int .u64 x1,.int .u64 x2,.int .u64 x3]):=by show _=_;rw[zaQ,hx0,hx1,hx2,hx3]
 have HY:Hid (wq y=[.int .u64 y0,.int .u64 y1,.int .u64 y2,.int .u64 y3]):=by show _=_;rw[zaQ,hy0,hy1,hy2,hy3]
 have RGx:X.rangeAt g (m*4) [.int .u64 x0,.int .u64 x1,.int .u64 x2,.int .u64 x3]:=by rw[<-HX.out];exact zjV (Lw.range hst) m x hx
 have RGy:X.rangeAt g (k1*4) [.int .u64 y0,.int .u64 y1,.int .u64 y2,.int .u64 y3]:=by rw[<-HY.out];exact zjV (Lw.range hst) k1 y hy
 obtain⟨cur,hRG,hcl,hct⟩:∃ cur:List Value,Row X g cur 27/\(k<=cp/\cp<=maxLen/\cur.length=cp*4)/\cur.take (k*4)=fw ss:=by
  obtain⟨hl,h2⟩:=hst
  rcases h2 with ⟨h2,_⟩|⟨g',cap',cur,hv,hg,hh,hc,hx,hs,ht⟩
  ·cases h2
  ·simp only[Value.slice.injEq,Option.some.injEq,Addr.mk.injEq] at hv
   obtain⟨⟨rfl,_,_⟩,_,rfl⟩:=hv
   exact⟨cur.toList,by unfold Row;simpa using hh,⟨hc,hx,by simpa using hs⟩,ht⟩
 have RG:Hid (Row X g cur 27):=hRG
 have HCUR:Hid ((k<=cp/\cp<=maxLen/\cur.length=cp*4)/\cur.take (k*4)=fw ss):=⟨hcl,hct⟩
 have a0:X.cell? ⟨g,m*4,none⟩=some (.int .u64 x0):=RGx 0 _ rfl
 have af0:X.frozen? ⟨g,m*4,none⟩=false:=RG.out.thaw _
 have p0:X.cell? ⟨g,k1*4,none⟩=some (.int .u64 y0):=RGy 0 _ rfl
 have pf0:X.frozen? ⟨g,k1*4,none⟩=false:=RG.out.thaw _
 have a1:X.cell? ⟨g,m*4+1,none⟩=some (.int .u64 x1):=RGx 1 _ rfl
 have af1:X.frozen? ⟨g,m*4+1,none⟩=false:=RG.out.thaw _
 have p1:X.cell? ⟨g,k1*4+1,none⟩=some (.int .u64 y1):=RGy 1 _ rfl
 have pf1:X.frozen? ⟨g,k1*4+1,none⟩=false:=RG.out.thaw _
 have a2:X.cell? ⟨g,m*4+2,none⟩=some (.int .u64 x2):=RGx 2 _ rfl
 have af2:X.frozen? ⟨g,m*4+2,none⟩=false:=RG.out.thaw _
 have p2:X.cell? ⟨g,k1*4+2,none⟩=some (.int .u64 y2):=RGy 2 _ rfl
 have pf2:X.frozen? ⟨g,k1*4+2,none⟩=false:=RG.out.thaw _
 have a3:X.cell? ⟨g,m*4+3,none⟩=some (.int .u64 x3):=RGx 3 _ rfl
 have af3:X.frozen? ⟨g,m*4+3,none⟩=false:=RG.out.thaw _
 have p3:X.cell? ⟨g,k1*4+3,none⟩=some (.int .u64 y3):=RGy 3 _ rfl
 have pf3:X.frozen? ⟨g,k1*4+3,none⟩=false:=RG.out.thaw _
 have o00:¬ m*4=k1*4:=by omega
 have u00:¬ k1*4=m*4:=by omega
 have o01:¬ m*4=k1*4+1:=by omega
 have u01:¬ k1*4+1=m*4:=by omega
 have o02:¬ m*4=k1*4+2:=by omega
 have u02:¬ k1*4+2=m*4:=by omega
 have o03:¬ m*4=k1*4+3:=by omega
 have u03:¬ k1*4+3=m*4:=by omega
 have o10:¬ m*4+1=k1*4:=by omega
 have u10:¬ k1*4=m*4+1:=by omega
 have o11:¬ m*4+1=k1*4+1:=by omega
 have u11:¬ k1*4+1=m*4+1:=by omega
 have o12:¬ m*4+1=k1*4+2:=by omega
 have u12:¬ k1*4+2=m*4+1:=by omega
 have o13:¬ m*4+1=k1*4+3:=by omega
 have u13:¬ k1*4+3=m*4+1:=by omega
 have o20:¬ m*4+2=k1*4:=by omega
 have u20:¬ k1*4=m*4+2:=by omega
 have o21:¬ m*4+2=k1*4+1:=by omega
 have u21:¬ k1*4+1=m*4+2:=by omega
 have o22:¬ m*4+2=k1*4+2:=by omega
 have u22:¬ k1*4+2=m*4+2:=by omega
 have o23:¬ m*4+2=k1*4+3:=by omega
 have u23:¬ k1*4+3=m*4+2:=by omega
 have o30:¬ m*4+3=k1*4:=by omega
 have u30:¬ k1*4=m*4+3:=by omega
 have o31:¬ m*4+3=k1*4+1:=by omega
 have u31:¬ k1*4+1=m*4+3:=by omega
 have o32:¬ m*4+3=k1*4+2:=by omega
 have u32:¬ k1*4+2=m*4+3:=by omega
 have o33:¬ m*4+3=k1*4+3:=by omega
 have u33:¬ k1*4+3=m*4+3:=by omega
 clear RGx RGy hst hRG hcl hct hx0 hy0 hx1 hy1 hx2 hy2 hx3 hy3 hK hl2 hf e9 e15 h9 h15 hl D hk
 refine wp_mono (Q:=Exit.then (fun a w=>Q .normal a w) (fun _ _ _=>False)) ?_ (fun e a' w' hq=>by
  cases e with
  |normal=>exact hq
  |_=>exact False.elim hq)
 have HXS:Hid (ss[m]?=some x/\ss[k1]?=some y):=⟨hx,hy⟩
 clear hx hy
 conv=>arg 2;whnf
 go_region
 all_goals
  try simp only[Act.put,jA,jB,jC,List.getElem_toArray,List.getElem_cons_succ,List.getElem_cons_zero]
  refine HK.out _ _ rfl (by kernel_rfl) ?_
  suffices hh:∀ V:World,V=((((((((X.setCell ⟨g,k1*4,none⟩ (.int .u64 x0)).setCell ⟨g,k1*4+1,none⟩ (.int .u64 x1)).setCell ⟨g,k1*4+2,none⟩ (.int .u64 x2)).setCell ⟨g,k1*4+3,none⟩ (.int .u64 x3)).setCell ⟨g,m*4,none⟩ (.int .u64 y0)).setCell ⟨g,m*4+1,none⟩ (.int .u64 y1)).setCell ⟨g,m*4+2,none⟩ (.int .u64 y2)).setCell ⟨g,m*4+3,none⟩ (.int .u64 y3)).drew->Dr w0 b4 b6 L V (.slice (some ⟨g,0,none⟩) k cp) ((ss.set k1 x).set m y) qv qs from hh _ rfl
  intro V hV
  have RV:Row V g ((((((((cur.set (k1*4) (.int .u64 x0)).set (k1*4+1) (.int .u64 x1)).set (k1*4+2) (.int .u64 x2)).set (k1*4+3) (.int .u64 x3)).set (m*4) (.int .u64 y0)).set (m*4+1) (.int .u64 y1)).set (m*4+2) (.int .u64 y2)).set (m*4+3) (.int .u64 y3)) 27:=by rw[hV];exact ((((((((RG.out.set (k1*4) (.int .u64 x0)).set (k1*4+1) (.int .u64 x1)).set (k1*4+2) (.int .u64 x2)).set (k1*4+3) (.int .u64 x3)).set (m*4) (.int .u64 y0)).set (m*4+1) (.int .u64 y1)).set (m*4+2) (.int .u64 y2)).set (m*4+3) (.int .u64 y3)).drew
  have GV:Gro (·=g) X V:=by rw[hV];exact ((((((((((Gro.refl (·=g) X).set g (k1*4) (.int .u64 x0) rfl).set g (k1*4+1) (.int .u64 x1) rfl).set g (k1*4+2) (.int .u64 x2) rfl).set g (k1*4+3) (.int .u64 x3) rfl).set g (m*4) (.int .u64 y0) rfl).set g (m*4+1) (.int .u64 y1) rfl).set g (m*4+2) (.int .u64 y2) rfl).set g (m*4+3) (.int .u64 y3) rfl)).below ((Below.refl _ _).drew)
  have hlen:((ss.set k1 x).set m y).length=k:=by rw[List.length_set,List.length_set];exact HKK.out.symm
  have LV:Lw V 27 4 (.slice (some ⟨g,0,none⟩) k cp) ((ss.set k1 x).set m y).length (fw ((ss.set k1 x).set m y)):=by
   refine⟨zfO _,.inr ⟨g,cp,((((((((cur.set (k1*4) (.int .u64 x0)).set (k1*4+1) (.int .u64 x1)).set (k1*4+2) (.int .u64 x2)).set (k1*4+3) (.int .u64 x3)).set (m*4) (.int .u64 y0)).set (m*4+1) (.int .u64 y1)).set (m*4+2) (.int .u64 y2)).set (m*4+3) (.int .u64 y3)).toArray,by rw[hlen],Nat.zero_le _,RV,by rw[hlen];exact HCUR.out.1.1,HCUR.out.1.2.1,?_,?_⟩⟩
   ·simp only[List.size_toArray,List.length_set]
    exact HCUR.out.1.2.2
   ·rw[hlen]
    simp only[List.take_set]
    rw[HCUR.out.2,zoL ss k1 x _ _ _ _ HX.out (by rw[<-HKK.out];exact hkk),zoL (ss.set k1 x) m y _ _ _ _ HY.out (by rw[List.length_set,<-HKK.out];exact hmk2)]
  exact dr_stk HD.out HST.out GV LV
theorem ro_five {b:List (BitVec 8)} {a n:Nat} (h:ro (zaZ 5) b=some (a,n)):1<=n:=by
 unfold ro at h
 rw[if_neg (by decide)] at h
 split at h
 ·cases h
 ·rename_i h3
  rw[if_neg (by decide),if_neg (by decide)] at h
  have h5:=(Prod.mk.inj (Option.some.inj h)).2
  have h4:lo (zaZ 5)=1:=by decide
  omega
section
variable {w0:World} {pd:List (BitVec 8)} {ls:List Ins} {ags:List Nat} {rs:List (Nat × Int)} {cl:Cl} {G:Nat} {L:List Value} {Aa Ar:Option Addr} {na ca nr cr0 gk ok m ck b4 b6:Nat} {R:Except Int (Nat × Nat)} {Q:List (List Value)} {RV:List Value} {RE:Int} {Q0:Exit->Act->World->Prop} {I:Act->World->Prop}
variable {x:Ins} {l nx l2 p2 s gv cv:Nat} {st bs tops:List Nat} {qs:List (List Value)} {op:Int} {sv qv:Value} {lst:List Value} {X:World}
theorem h_2 (E:Env w0 pd ls ags rs cl G L Aa Ar na ca nr cr0 gk ok m ck b4 b6) (S:Sx ls ags rs cl G R Q m x l nx st qs bs tops l2 p2 s op) (W:Sw w0 b4 b6 L (.slice (some ⟨gk,ok,none⟩) m ck) (.slice Ar nr cr0) qv qs bs tops x.c x.p l2 p2 s op gv cv sv lst X) (hcx:x.c=2) (code:Code) (hc:code=rbt):Code.wp Tryz.prog (rsq code) (Exit.inBlock 1 (Exit.then (fun a w=>WI w0 b4 b6 L (.slice (some ⟨gk,ok,none⟩) m ck) (.slice Ar nr cr0) cl ags ls rs R Q G m a w/\Wmu a<l) Q0)) ⟨lst.toArray,[]⟩ X:=by
 have htl:tops.length=0:=by rw[S.tl,hcx];rfl
 obtain rfl:tops=[]:=List.eq_nil_of_length_eq_zero htl
 have HN:Hid (Rd cl ags ls rs R Q G (x.a :: bs.reverse) l2 (nx+1) (qs++[])/\nx+1<=ls.length/\l2<l):=S.next E.vals (S.stU.trans (by rw[if_neg (by omega),if_pos (by omega),hcx,S.stk];rfl)) (by omega)
 obtain⟨hm,hxp,_,_,bb,br,hd,hbb,how,hro,_,hpn⟩:=ziA E.pdl E.chk S.hx
 rw[hcx] at how hro hpn
 obtain⟨y,br',hbr,hy1,hy2,hyl,hw1,hxa,hxn⟩:=zyJ how hro
 rw[hw1] at hpn
 subst hbr
 have hdl:=congrArg List.length hd
 rw[List.length_drop,List.length_cons,List.length_cons,E.pdl] at hdl
 have hs:s=1+(1+y.toNat):=by
  have h1:=S.es
  rw[S.ep,hpn] at h1
  omega
 obtain⟨r,hr⟩:∃ r,r=x.a:=⟨_,rfl⟩
 rw[<-hr] at HN hxa
 obtain⟨yn,hyn⟩:∃ k,k=y.toNat:=⟨_,rfl⟩
 obtain⟨bd,hbd⟩:∃ d,d=br'.take y.toNat:=⟨_,rfl⟩
 have hbl:bd.length=yn:=by rw[hbd,List.length_take,hyn];omega
 rw[<-hbd] at hxa
 have HNB2:Hid (∀ t,t<yn->ht r (yn-1-t)=(bd.getD t 0#8).toNat):=fun t ht'=>by
  have:=nb_ht bd (by omega) t (by omega)
  rw[hbl,<-hxa] at this
  exact this
 have HNL:Hid (r<256 ^ yn):=by
  have:=zoW bd (by omega)
  rw[hbl,<-hxa] at this
  exact this
 have HBY:Hid (∀ t,t<yn->∀ X,Below w0.heap.size w0 X->X.cell? ⟨gk,ok+(x.p+2+t),none⟩=some (.int .u8 (((bd.getD t 0#8).toNat:Nat):Int))):=fun t ht' X hX=>by
  have h:=E.at (x.p+2+t) (by omega) X hX
  rw[show x.p+2+t=x.p+(t+1+1) by omega,zdA hd (t+1+1),List.getD_cons_succ,List.getD_cons_succ] at h
  rw[show x.p+2+t=x.p+(t+1+1) by omega,h,hbd]
  have e:(br'.take y.toNat).getD t 0#8=br'.getD t 0#8:=by
   rw[List.getD_eq_getElem?_getD,List.getD_eq_getElem?_getD,List.getElem?_take_of_lt (by omega)]
  rw[e]
 have HF:Hid (∀ t,(bd.getD t 0#8).toNat<256):=fun t=>(bd.getD t 0#8).isLt
 have HNU:Hid (∀ N W,Rh W N yn r->Calls Tryz.prog 15 #[.slice (some ⟨N,0,none⟩) yn yn] W fun e w'=>e=.returned (.agg (wq r).toArray)/\Below W.heap.size W w'):=fun N W hW=>zeP (cr:=wq r) rfl N 0 yn yn (by omega) HNL.out W (.inl hW.ch)
 have hsy:(s:Int)-2=(yn:Int):=by omega
 have hsb:(s:Int)<=34:=by omega
 have hyb:(yn:Int)<=32:=by omega
 have hyb2:yn<=32:=by omega
 have hpy:(x.p:Int)+2+(yn:Int)<=(m:Int):=by omega
 have hml:(m:Int)<=1024:=by omega
 clear hm hxp hd hbb how hro hpn hw1 hxa hxn hy1 hy2 hyl hdl hr hyn hbd hbl hs
 obtain⟨f,_,e⟩:=W.open 2 (by omega) 0 rfl
 have HD:Hid (Dr w0 b4 b6 L X sv (bs++[]) qv qs):=W.dr
 have HS:Hid (Sx ls ags rs cl G R Q m x l nx st qs bs [] l2 p2 s op):=S
 have HE:Hid (Env w0 pd ls ags rs cl G L Aa Ar na ca nr cr0 gk ok m ck b4 b6):=E
 have HV:Hid (Lw X 27 4 (.slice (some ⟨gv,0,none⟩) 0 cv) 0 (fw ([]:List Nat))):=W.v
 have hkb:(bs.length:Int)<=64:=by have:=S.n64;omega
 have hlb:(l2:Int)<=10000:=by have:=S.l2b;omega
 rw[e]
 clear e S W E
 unfold frc
 conv=>arg 2;whnf
 go_upto_region 35 with fail
 go_upto_region 36 with (refine zbM rfl 52 (.tmp 165) (.tmp 165) rfl 3 yn _ _ rfl rfl rfl rfl (by omega) Tryz.underlying52 zbN ?_;simp only[Act.put,jA,jB,jC])
 obtain⟨W9,hW9⟩:∃ W,W=X.alloc (Obj.cells (vI (List.replicate yn 0)).toArray 3):=⟨_,rfl⟩
 rw[<-hW9]
 obtain⟨bl,hbl⟩:∃ b,b=X.heap.size:=⟨_,rfl⟩
 rw[<-hbl]
 have HR9:Hid (Rf W9 bl yn (fun _=>0)):=by rw[hW9,hbl];exact Rf.start _ yn rfl
 have HBL:Hid (X.heap.size<=bl/\Below X.heap.size X W9):=⟨by rw[hbl];exact Nat.le_refl _,by rw[hW9];exact (Below.refl _ _).alloc (Nat.le_refl _) _⟩
 clear hW9 hbl
 go_wp2_with fail
 go_loopw [22] (fun v wr=>∃ t:Nat,t<=yn/\v=.int .i64 (t:Int)/\Hid (Below X.heap.size X wr/\Rf wr bl yn (fun j=>if j<t then (bd.getD j 0#8).toNat else 0))) (fun v _=>yn-(intOf v).toNat)
 case atStart=>exact⟨0,Nat.zero_le _,rfl,HBL.out.2,HR9.out.congr (fun j _=>if_neg (Nat.not_lt_zero j))⟩
 case round=>
  obtain⟨t,ht',rfl,hI⟩:=hrel
  by_cases hlt:t<yn
  ·have hlt':(t:Int)<(yn:Int):=by omega
   have g1:=HBY.out t hlt wr (Below.trans HD.out.be (hI.out.1.mono HD.out.be.size))
   obtain⟨g3,gf⟩:=hI.out.2.cell t hlt
   rw[if_neg (Nat.lt_irrefl _)] at g3
   have hx:=HF.out t
   have HO:Hid (∀ j,j<yn->j≠t->(if j<t+1 then (bd.getD j 0#8).toNat else 0)=(if j<t then (bd.getD j 0#8).toNat else 0)):=fun j hj hne=>by
    by_cases hl:j<t
    ·rw[if_pos hl,if_pos (by omega)]
    ·rw[if_neg hl,if_neg (by omega)]
   obtain⟨d,hd⟩:∃ d,d=(bd.getD t 0#8).toNat:=⟨_,rfl⟩
   have HDD:Hid (d=(if t<t+1 then (bd.getD t 0#8).toNat else 0)):=by show _=_;rw[if_pos (by omega)];exact hd
   rw[<-hd] at g1 hx
   have eC:IntKind.i64.wrap (d:Int)=(d:Int):=by rw[IntKind.wrap_i64];omega
   have hdi:(d:Int)<256:=by omega
   obtain⟨j,hj⟩:∃ j,j=x.p+2+t:=⟨_,rfl⟩
   rw[<-hj] at g1
   obtain⟨j0,hj0⟩:∃ j0,j0=x.p+2:=⟨_,rfl⟩
   have ej0:(x.p:Int)+2=(j0:Int):=by omega
   have ej:(j0:Int)+(t:Int)=(j:Int):=by omega
   have hjm:(j:Int)<(m:Int):=by omega
   have hj0m:(j0:Int)<=2000:=by omega
   clear hx hd ht' hj hj0
   go_wp2_with fail
   exact⟨⟨t+1,hlt,by go_num,Below.setCell hI.out.1 (by show X.heap.size<=bl;exact HBL.out.1) _,hI.out.2.put hlt HDD.out HO.out⟩,by simp [intOf];omega⟩
  ·obtain rfl:t=yn:=by omega
   have HQ:Hid (Rh wr bl t r):=Rf.rh (hI.out.2.congr (fun j hj=>by rw[if_pos hj];exact HNB2.out j hj))
   have D10:Hid (Dr w0 b4 b6 L wr _ (bs++[]) qv qs):=HD.out.keep hI.out.1
   clear hI hlt ht'
   go_wp2_with (first
    |(go_at_call 15;refine (HNU.out bl wr HQ.out).mono ?_;rintro e X10 ⟨rfl,q⟩;have D11:Hid (Dr w0 b4 b6 L X10 _ (bs++[]) qv qs):=D10.out.keep q;clear q)
    |(refine zbL 28 27 4 Tryz.underlying28 zcM (by decide) (by decide) rfl (.tmp 185) rfl (wq r) (zaV _) rfl ?_;intro X11 q1 q q3;have HRW:Hid (Row X11 X10.heap.size (wq r) 27):=q1;have D12:Hid (Dr w0 b4 b6 L X11 _ (bs++[]) qv qs):=D11.out.keep q;clear q q1 q3;simp only[Act.put,jA,jB,jC]))
   try rw[hc]
   refine zhE (on:=[r]) (n:=0) ⟨rfl,rfl,rfl,rfl,rfl,rfl,rfl,rfl,rfl,rfl,.inr ⟨_,_,rfl,rfl,HRW.out.all⟩,D12.out,HS.out.n64⟩ (nx+1) (r :: bs.reverse) (by have:=HN.out.1;rwa [List.append_nil] at this) (by simp) HS.out.ep HN.out.2.1 HN.out.2.2
theorem h_5 (E:Env w0 pd ls ags rs cl G L Aa Ar na ca nr cr0 gk ok m ck b4 b6) (S:Sx ls ags rs cl G R Q m x l nx st qs bs tops l2 p2 s op) (W:Sw w0 b4 b6 L (.slice (some ⟨gk,ok,none⟩) m ck) (.slice Ar nr cr0) qv qs bs tops x.c x.p l2 p2 s op gv cv sv lst X) (hcx:x.c=5) (code:Code) (hc:code=rbt):Code.wp Tryz.prog (rsq code) (Exit.inBlock 1 (Exit.then (fun a w=>WI w0 b4 b6 L (.slice (some ⟨gk,ok,none⟩) m ck) (.slice Ar nr cr0) cl ags ls rs R Q G m a w/\Wmu a<l) Q0)) ⟨lst.toArray,[]⟩ X:=by
 have htl:tops.length=0:=by rw[S.tl,hcx];rfl
 obtain rfl:tops=[]:=List.eq_nil_of_length_eq_zero htl
 have hop:op=(x.n:Int):=S.eo (.inr (.inl hcx))
 have hsb:st=bs.reverse:=by rw[S.stk];rfl
 have hfew:=S.few
 rw[hcx,show tT 5 x.n=1+x.n from rfl,hsb,List.length_reverse] at hfew
 have hn1:1<=x.n:=by
  obtain⟨_,_,_,_,bb,br,_,_,how,hro,_,_⟩:=ziA E.pdl E.chk S.hx
  rw[hcx] at hro
  exact ro_five hro
 obtain⟨xs,hxs⟩:∃ v,v=bs.reverse.getD x.n 0:=⟨_,rfl⟩
 obtain⟨ys,hys⟩:∃ v,v=bs.reverse.getD 0 0:=⟨_,rfl⟩
 obtain⟨st3,hst3⟩:∃ s,s=(bs.reverse.set 0 xs).set x.n ys:=⟨_,rfl⟩
 have HN:Hid (Rd cl ags ls rs R Q G (st3) l2 (nx+1) (qs++[])/\nx+1<=ls.length/\l2<l):=S.next E.vals (S.stU.trans (by rw[if_neg (by omega),if_pos (by omega),hcx,hsb,hst3,hxs,hys];rfl)) (by omega)
 obtain⟨j,hj⟩:∃ j,j=bs.length-1-x.n:=⟨_,rfl⟩
 obtain⟨kt,hkt⟩:∃ k,k=bs.length-1:=⟨_,rfl⟩
 have es1:(bs.length:Int)-1=(kt:Int):=by omega
 have es2:(kt:Int)-(x.n:Int)=(j:Int):=by omega
 have hjk:j<kt:=by omega
 have HXA:Hid ((bs++[])[j]?=some xs):=by
  have:=ziG bs.reverse x.n (by rw[List.length_reverse];omega)
  rw[List.reverse_reverse,<-hj,<-hxs] at this
  show _=_
  rw[List.append_nil]
  exact this
 have HXB:Hid ((bs++[])[kt]?=some ys):=by
  have:=ziG bs.reverse 0 (by rw[List.length_reverse];omega)
  rw[List.reverse_reverse,Nat.sub_zero,<-hkt,<-hys] at this
  show _=_
  rw[List.append_nil]
  exact this
 have HE2:Hid ((bs.set kt xs).set j ys=st3.reverse):=by
  show _=_
  rw[hst3,zkF _ x.n _ (by rw[List.length_set,List.length_reverse];omega),zkF bs.reverse 0 _ (by rw[List.length_reverse];omega),List.length_set,List.reverse_reverse,Nat.sub_zero,<-hj,<-hkt]
 have hst:=W.dr.st
 rw[List.append_nil] at hst
 obtain⟨g0,cap0,hsv,_⟩:=Lw.open hst (by omega)
 subst hsv
 subst hop
 clear hxs hys hst3 hj hkt hsb hfew hst hn1
 obtain⟨f,_,e⟩:=W.open 5 (by omega) 0 rfl
 have HD:Hid (Dr w0 b4 b6 L X (.slice (some ⟨g0,0,none⟩) bs.length cap0) (bs++[]) qv qs):=W.dr
 have HS:Hid (Sx ls ags rs cl G R Q m x l nx st qs bs [] l2 p2 s (x.n:Int)):=S
 have HE:Hid (Env w0 pd ls ags rs cl G L Aa Ar na ca nr cr0 gk ok m ck b4 b6):=E
 have HV:Hid (Lw X 27 4 (.slice (some ⟨gv,0,none⟩) 0 cv) 0 (fw ([]:List Nat))):=W.v
 have hkb:(bs.length:Int)<=64:=by have:=S.n64;omega
 have hlb:(l2:Int)<=10000:=by have:=S.l2b;omega
 rw[e]
 clear e S W E
 unfold frc
 conv=>arg 2;whnf
 go_upto_region 45 with fail
 refine t45 _ rfl g0 bs.length cap0 kt j x.n xs ys rfl rfl X HD.out (by simp) (by have:=HS.out.n64;simp at this;omega) es1 es2 hjk HXA.out HXB.out ?_
 intro l9 X40 h9 hw q
 rw[List.append_nil] at q
 have D40:Hid (Dr w0 b4 b6 L X40 (.slice (some ⟨g0,0,none⟩) bs.length cap0) ((bs.set kt xs).set j ys++[]) qv qs):=by rw[List.append_nil];exact q
 clear q
 obtain⟨f9,hf9⟩:∃ f9:Nat->Value,f9=fun k=>l9.getD k undef:=⟨_,rfl⟩
 rw[zfJ bs45 _ l9 0 f9 (by rw[h9];rfl) (fun k=>by rw[Nat.zero_add,hf9]) hw]
 unfold bs45
 simp only[zlL,cond_true,cond_false,Nat.reduceAdd]
 clear hw h9 hf9
 go_wp2_with fail
 try rw[hc]
 refine zhE (bs:=(bs.set kt xs).set j ys) (on:=[]) (n:=0) ⟨rfl,rfl,rfl,rfl,rfl,rfl,rfl,rfl,?_,rfl,.inl ⟨rfl,rfl⟩,D40.out,?_⟩ (nx+1) st3 (by have:=HN.out.1;rwa [List.append_nil] at this) (by rw[List.append_nil];exact HE2.out) HS.out.ep HN.out.2.1 HN.out.2.2
 ·show Value.int .i64 (bs.length:Int)=_
  rw[List.length_set,List.length_set]
 ·rw[List.length_set,List.length_set]
  exact HS.out.n64
end
section
variable {cl:Cl} {ags:List Nat} {ls:List Ins} {a ni l nx x y:Nat} {st:List Nat}
theorem zxV (h:(sm 6 x y).2=true):exi cl ags ls 6 a ni (y :: x :: st) l nx=.ok ((sm 6 x y).1 :: st,nx):=by
 have h':x+y<2 ^ 256:=of_decide_eq_true h
 show (if zvS x y=0 then Except.ok (zvT x y :: st,nx) else .error 104)=.ok ((x+y) % 256 ^ 32 :: st,nx)
 rw[p32,Nat.mod_eq_of_lt h']
 unfold zvS zvT
 rw[if_pos h',if_pos h',if_pos rfl]
theorem zxR (h:(sm 6 x y).2=false):exi cl ags ls 6 a ni (y :: x :: st) l nx=.error 104:=by
 have h':¬ x+y<2 ^ 256:=of_decide_eq_false h
 show (if zvS x y=0 then Except.ok (zvT x y :: st,nx) else .error 104)=.error 104
 unfold zvS
 rw[if_neg h',if_neg (by decide)]
theorem zxW (h:(sm 7 x y).2=true):exi cl ags ls 7 a ni (y :: x :: st) l nx=.ok ((sm 7 x y).1 :: st,nx):=by
 have h':¬ x<y:=by simpa [sm] using h
 show (if zuT x y=0 then Except.ok (zvV x y :: st,nx) else .error 104)=.ok ((if x<y then 0 else x-y) :: st,nx)
 unfold zuT zvV
 rw[if_neg h',if_neg h',if_pos rfl]
theorem zxS (h:(sm 7 x y).2=false):exi cl ags ls 7 a ni (y :: x :: st) l nx=.error 104:=by
 have h':x<y:=by simpa [sm] using h
 show (if zuT x y=0 then Except.ok (zvV x y :: st,nx) else .error 104)=.error 104
 unfold zuT
 rw[if_pos h',if_neg (by decide)]
theorem zxX (h:(sm 8 x y).2=true):exi cl ags ls 8 a ni (y :: x :: st) l nx=.ok ((sm 8 x y).1 :: st,nx):=by
 have h':x*y<2 ^ 256:=of_decide_eq_true h
 show (if zyT x y=0 then Except.ok (zyU x y :: st,nx) else .error 104)=.ok (x*y % 256 ^ 32 :: st,nx)
 rw[p32,Nat.mod_eq_of_lt h']
 unfold zyT zyU
 rw[if_pos h',if_pos h',if_pos rfl]
theorem zxT (h:(sm 8 x y).2=false):exi cl ags ls 8 a ni (y :: x :: st) l nx=.error 104:=by
 have h':¬ x*y<2 ^ 256:=of_decide_eq_false h
 show (if zyT x y=0 then Except.ok (zyU x y :: st,nx) else .error 104)=.error 104
 unfold zyT
 rw[if_neg h',if_neg (by decide)]
theorem zxY (h:(sm 9 x y).2=true):exi cl ags ls 9 a ni (y :: x :: st) l nx=.ok ((sm 9 x y).1 :: st,nx):=by
 have h':¬ y=0:=by simpa [sm] using h
 show (if zmP y=0 then Except.ok (zsD x y :: st,nx) else .error 104)=.ok ((if y=0 then 0 else x / y) :: st,nx)
 unfold zmP zsD
 rw[if_neg h',if_neg h',if_pos rfl]
theorem zxU (h:(sm 9 x y).2=false):exi cl ags ls 9 a ni (y :: x :: st) l nx=.error 104:=by
 have h':y=0:=by simpa [sm] using h
 show (if zmP y=0 then Except.ok (zsD x y :: st,nx) else .error 104)=.error 104
 unfold zmP
 rw[if_pos h',if_neg (by decide)]
theorem zsO (h:(sm 10 x y).2=true):exi cl ags ls 10 a ni (y :: x :: st) l nx=.ok ((sm 10 x y).1 :: st,nx):=by
 have h':¬ y=0:=by simpa [sm] using h
 show (if zmP y=0 then Except.ok (zsE x y :: st,nx) else .error 104)=.ok ((if y=0 then 0 else x % y) :: st,nx)
 unfold zmP zsE
 rw[if_neg h',if_neg h',if_pos rfl]
theorem zsN (h:(sm 10 x y).2=false):exi cl ags ls 10 a ni (y :: x :: st) l nx=.error 104:=by
 have h':y=0:=by simpa [sm] using h
 show (if zmP y=0 then Except.ok (zsE x y :: st,nx) else .error 104)=.error 104
 unfold zmP
 rw[if_pos h',if_neg (by decide)]
theorem zsP (_h:(sm 11 x y).2=true):exi cl ags ls 11 a ni (y :: x :: st) l nx=.ok ((sm 11 x y).1 :: st,nx):=by
 show (if (0:Int)=0 then Except.ok ((if x<y then 1 else 0) :: st,nx) else .error 104)=.ok ((if decide (x<y)=true then 1 else 0) :: st,nx)
 rw[if_pos rfl]
 by_cases h:x<y
 ·rw[if_pos h,if_pos (by simpa using h)]
 ·rw[if_neg h,if_neg (by simpa using h)]
end
section
variable {w0:World} {pd:List (BitVec 8)} {ls:List Ins} {ags:List Nat} {rs:List (Nat × Int)} {cl:Cl} {G:Nat} {L:List Value} {Aa Ar:Option Addr} {na ca nr cr0 gk ok m ck b4 b6:Nat} {R:Except Int (Nat × Nat)} {Q:List (List Value)} {RV:List Value} {RE:Int} {Q0:Exit->Act->World->Prop} {I:Act->World->Prop}
variable {x:Ins} {l nx l2 p2 s gv cv:Nat} {st bs tops:List Nat} {qs:List (List Value)} {op:Int} {sv qv:Value} {lst:List Value} {X:World}
theorem h_told (E:Env w0 pd ls ags rs cl G L Aa Ar na ca nr cr0 gk ok m ck b4 b6) (S:Sx ls ags rs cl G R Q m x l nx st qs bs tops l2 p2 s op) (W:Sw w0 b4 b6 L (.slice (some ⟨gk,ok,none⟩) m ck) (.slice Ar nr cr0) qv qs bs tops x.c x.p l2 p2 s op gv cv sv lst X) (h16:16<=x.c) (h24:x.c<24) (code:Code) (hc:code=rbt):Code.wp Tryz.prog (rsq code) (Exit.inBlock 1 (Exit.then (fun a w=>WI w0 b4 b6 L (.slice (some ⟨gk,ok,none⟩) m ck) (.slice Ar nr cr0) cl ags ls rs R Q G m a w/\Wmu a<l) Q0)) ⟨lst.toArray,[]⟩ X:=by
 have htl:tops.length=0:=by
  rw[S.tl]
  exact (by decide:∀ c,c<24->16<=c->wn c=0) x.c h24 h16
 obtain rfl:tops=[]:=List.eq_nil_of_length_eq_zero htl
 obtain⟨k,hk,hkb2⟩:=S.eb
 have hkn:x.c=16->k=x.n:=fun h=>by
  have:=S.eo (.inr (.inr h))
  omega
 obtain⟨z,hz⟩:∃ z:Int,(x.c:Int)=z:=⟨_,rfl⟩
 obtain⟨r,hr⟩:∃ r,r=tv cl ags x.c k l2:=⟨_,rfl⟩
 have hex:exi cl ags ls x.c x.a x.n st (l-gT x.c) (nx+1)=.ok (r :: bs.reverse,nx+1):=by
  rw[hr,S.stk,<-S.el]
  have h8:=(by omega:x.c=16\/x.c=17\/x.c=18\/x.c=19\/x.c=20\/x.c=21\/x.c=22\/x.c=23)
  rcases h8 with h|h|h|h|h|h|h|h
  ·rw[hkn h,h];rfl
  all_goals rw[h];rfl
 have HN:Hid (Rd cl ags ls rs R Q G (r :: bs.reverse) l2 (nx+1) (qs++[])/\nx+1<=ls.length/\l2<l):=S.next E.vals (S.stU.trans (by rw[if_neg (by omega),if_pos (by omega),hex])) (by omega)
 have HTO:Hid (∀ X,Below w0.heap.size w0 X->Calls Tryz.prog 22 #[.int .i64 z,.int .i64 op,.agg L.toArray,.int .i64 (l2:Int)] X fun e w'=>e=.returned (.agg (wq r).toArray)/\Below X.heap.size X w'):=fun X hX=>by
  rw[hr,<-hz,hk]
  exact told_g x.c h16 h24 cl L E.inn E.tok E.tm Aa na ca E.l45 ags E.nal E.na8 k l2 hkb2 S.l2b X (sin_be E.ag hX)
 have HLI:Hid ((Tryz.prog.info? 30).map (·.size)=some L.length):=by show _=_;rw[E.llen];kernel_rfl
 have hge:¬ (24:Int)<=z:=by omega
 clear hr hk hex
 have n0:(z==0)=false:=by simp only[beq_eq_false_iff_ne,ne_eq];omega
 have n1:(z==1)=false:=by simp only[beq_eq_false_iff_ne,ne_eq];omega
 have n2:(z==2)=false:=by simp only[beq_eq_false_iff_ne,ne_eq];omega
 have n3:(z==3)=false:=by simp only[beq_eq_false_iff_ne,ne_eq];omega
 have n4:(z==4)=false:=by simp only[beq_eq_false_iff_ne,ne_eq];omega
 have n5:(z==5)=false:=by simp only[beq_eq_false_iff_ne,ne_eq];omega
 have n6:(z==6)=false:=by simp only[beq_eq_false_iff_ne,ne_eq];omega
 have n7:(z==7)=false:=by simp only[beq_eq_false_iff_ne,ne_eq];omega
 have n8:(z==8)=false:=by simp only[beq_eq_false_iff_ne,ne_eq];omega
 have n9:(z==9)=false:=by simp only[beq_eq_false_iff_ne,ne_eq];omega
 have n10:(z==10)=false:=by simp only[beq_eq_false_iff_ne,ne_eq];omega
 have n11:(z==11)=false:=by simp only[beq_eq_false_iff_ne,ne_eq];omega
 have n12:(z==12)=false:=by simp only[beq_eq_false_iff_ne,ne_eq];omega
 have n13:(z==13)=false:=by simp only[beq_eq_false_iff_ne,ne_eq];omega
 have n14:(z==14)=false:=by simp only[beq_eq_false_iff_ne,ne_eq];omega
 have n15:(z==15)=false:=by simp only[beq_eq_false_iff_ne,ne_eq];omega
 have n24:(z==24)=false:=by simp only[beq_eq_false_iff_ne,ne_eq];omega
 have n25:(z==25)=false:=by simp only[beq_eq_false_iff_ne,ne_eq];omega
 have n26:(z==26)=false:=by simp only[beq_eq_false_iff_ne,ne_eq];omega
 have n27:(z==27)=false:=by simp only[beq_eq_false_iff_ne,ne_eq];omega
 obtain⟨f,_,e⟩:=W.open z hz 0 rfl
 have HD:Hid (Dr w0 b4 b6 L X sv (bs++[]) qv qs):=W.dr
 have HS:Hid (Sx ls ags rs cl G R Q m x l nx st qs bs [] l2 p2 s op):=S
 have HE:Hid (Env w0 pd ls ags rs cl G L Aa Ar na ca nr cr0 gk ok m ck b4 b6):=E
 have HV:Hid (Lw X 27 4 (.slice (some ⟨gv,0,none⟩) 0 cv) 0 (fw ([]:List Nat))):=W.v
 have hkb:(bs.length:Int)<=64:=by have:=S.n64;omega
 have hlb:(l2:Int)<=10000:=by have:=S.l2b;omega
 rw[e]
 clear e S W E
 unfold frc
 conv=>arg 2;whnf
 clear hz
 go_wp2_with (first
  |(refine wpList_load_mid rfl 30 (.tmp 4) rfl b4 0 rfl L _ HD.out.r4.all Tryz.underlying30 rfl HLI.out ?_;simp only[Act.put,jA,jB,jC])
  |(go_at_call 22;refine (HTO.out X HD.out.be).mono ?_;rintro e X9 ⟨rfl,q⟩;have D9:Hid (Dr w0 b4 b6 L X9 _ (bs++[]) qv qs):=HD.out.keep q;clear q)
  |(refine zbL 28 27 4 Tryz.underlying28 zcM (by decide) (by decide) rfl (.tmp 145) rfl (wq r) (zaV _) rfl ?_;intro X11 q1 q q3;have HRW:Hid (Row X11 X9.heap.size (wq r) 27):=q1;have D11:Hid (Dr w0 b4 b6 L X11 _ (bs++[]) qv qs):=D9.out.keep q;clear q q1 q3;simp only[Act.put,jA,jB,jC]))
 try rw[hc]
 refine zhE (on:=[r]) (n:=0) ⟨rfl,rfl,rfl,rfl,rfl,rfl,rfl,rfl,rfl,rfl,.inr ⟨_,_,rfl,rfl,HRW.out.all⟩,D11.out,HS.out.n64⟩ (nx+1) (r :: bs.reverse) (by have:=HN.out.1;rwa [List.append_nil] at this) (by simp) HS.out.ep HN.out.2.1 HN.out.2.2
theorem zmQ (E:Env w0 pd ls ags rs cl G L Aa Ar na ca nr cr0 gk ok m ck b4 b6) (S:Sx ls ags rs cl G R Q m x l nx st qs bs tops l2 p2 s op) (W:Sw w0 b4 b6 L (.slice (some ⟨gk,ok,none⟩) m ck) (.slice Ar nr cr0) qv qs bs tops x.c x.p l2 p2 s op gv cv sv lst X) (h6:6<=x.c) (h12:x.c<13) (hex:∀ a b st2 l n,tops=[a,b]->exi cl ags ls x.c x.a x.n (b :: a :: st2) l n=.ok ((sm x.c a b).1 :: st2,n)) (hok0:∀ a b,tops=[a,b]->(sm x.c a b).2=true) (code:Code) (hc:code=rbt):Code.wp Tryz.prog (rsq code) (Exit.inBlock 1 (Exit.then (fun a w=>WI w0 b4 b6 L (.slice (some ⟨gk,ok,none⟩) m ck) (.slice Ar nr cr0) cl ags ls rs R Q G m a w/\Wmu a<l) Q0)) ⟨lst.toArray,[]⟩ X:=by
 have htl:tops.length=2:=by rw[S.tl];exact (by decide:∀ c,c<13->6<=c->wn c=2) x.c h12 h6
 obtain⟨a,b,rfl⟩:=zgV htl
 obtain⟨z,hz⟩:∃ z:Int,(x.c:Int)=z:=⟨_,rfl⟩
 have hok:=hok0 a b rfl
 obtain⟨r,hr⟩:∃ r,r=(sm x.c a b).1:=⟨_,rfl⟩
 have HSM:Hid (∀ W,Calls Tryz.prog 16 #[.int .i64 z,.agg (wq a).toArray,.agg (wq b).toArray] W fun e w'=>e=.returned (.tuple #[.agg (wq r).toArray,.bool true])/\Below W.heap.size W w'):=fun W=>by
  have:=sum_c x.c a b (S.lt a (by simp)) (S.lt b (by simp)) (by omega) W
  rw[hok,<-hr,hz] at this
  exact this
 have hp:(z==6)=true\/((z==6)=false/\(z==7)=true)\/((z==6)=false/\(z==7)=false/\(z==8)=true)\/((z==6)=false/\(z==7)=false/\(z==8)=false/\(z==9)=true)\/((z==6)=false/\(z==7)=false/\(z==8)=false/\(z==9)=false/\(z==10)=true)\/((z==6)=false/\(z==7)=false/\(z==8)=false/\(z==9)=false/\(z==10)=false/\(z==11)=true)\/((z==6)=false/\(z==7)=false/\(z==8)=false/\(z==9)=false/\(z==10)=false/\(z==11)=false/\(z==12)=true):=by
  simp only[beq_eq_false_iff_ne,beq_iff_eq,ne_eq]
  omega
 have hge:¬ (24:Int)<=z:=by omega
 have n0:(z==0)=false:=by simp only[beq_eq_false_iff_ne,ne_eq];omega
 have n1:(z==1)=false:=by simp only[beq_eq_false_iff_ne,ne_eq];omega
 have n2:(z==2)=false:=by simp only[beq_eq_false_iff_ne,ne_eq];omega
 have n3:(z==3)=false:=by simp only[beq_eq_false_iff_ne,ne_eq];omega
 have n4:(z==4)=false:=by simp only[beq_eq_false_iff_ne,ne_eq];omega
 have n5:(z==5)=false:=by simp only[beq_eq_false_iff_ne,ne_eq];omega
 have HN:Hid (Rd cl ags ls rs R Q G (r :: bs.reverse) l2 (nx+1) (qs++[])/\nx+1<=ls.length/\l2<l):=S.next E.vals (S.stU.trans (by rw[if_neg (by omega),if_pos (by omega),S.stk,hr];exact congrArg (·,([]:List (List Value))) (hex a b bs.reverse _ _ rfl))) (by omega)
 clear hr hok hok0 hex
 obtain⟨f,_,e⟩:=W.open z hz 2 rfl
 have HD:Hid (Dr w0 b4 b6 L X sv (bs++[a,b]) qv qs):=W.dr
 have HS:Hid (Sx ls ags rs cl G R Q m x l nx st qs bs [a,b] l2 p2 s op):=S
 have HE:Hid (Env w0 pd ls ags rs cl G L Aa Ar na ca nr cr0 gk ok m ck b4 b6):=E
 have HV:Hid (Lw X 27 4 (.slice (some ⟨gv,0,none⟩) 2 cv) 2 (fw [a,b])):=W.v
 have hkb:(bs.length:Int)<=64:=by have:=S.n64;omega
 have hlb:(l2:Int)<=10000:=by have:=S.l2b;omega
 rw[e]
 clear e S W E
 unfold frc
 conv=>arg 2;whnf
 clear hz
 have HV0:Hid (X.rangeAt gv 0 (wq a)):=zcB HV.out 0 a rfl
 have HV1:Hid (X.rangeAt gv 4 (wq b)):=zcB HV.out 1 b rfl
 rcases hp with e6|⟨e6,e7⟩|⟨e6,e7,e8⟩|⟨e6,e7,e8,e9⟩|⟨e6,e7,e8,e9,e10⟩|⟨e6,e7,e8,e9,e10,e11⟩|⟨e6,e7,e8,e9,e10,e11,e12⟩
 all_goals
  go_upto_region 53 with fail
  refine t53 _ rfl gv cv a b r z true rfl rfl X HV0.out HV1.out HSM.out ?_
  intro l9 X40 b23 h9 hw e23 e24 r23 hb9
  have D40:Hid (Dr w0 b4 b6 L X40 _ (bs++[a,b]) qv qs):=HD.out.keep hb9
  have R40:Hid (Row X40 b23 (wq r) 27):=r23
  obtain⟨f9,hf9⟩:∃ f9:Nat->Value,f9=fun k=>l9.getD k undef:=⟨_,rfl⟩
  rw[show l9.getD 23 undef=f9 23 by rw[hf9]] at e23
  rw[show l9.getD 24 undef=f9 24 by rw[hf9]] at e24
  rw[zfJ bs53 _ l9 0 f9 (by rw[h9];rfl) (fun k=>by rw[Nat.zero_add,hf9]) hw]
  unfold bs53
  simp only[zlL,cond_true,cond_false,Nat.reduceAdd]
  rw[e23,e24]
  clear hw h9 hf9 e23 e24 r23 hb9
  go_wp2_with (first
   |(refine wpList_load_mid rfl 27 (.tmp 23) rfl b23 0 rfl (wq r) _ R40.out.all Tryz.underlying27 rfl (zaU _) ?_;simp only[Act.put,jA,jB,jC])
   |(refine zbL 28 27 4 Tryz.underlying28 zcM (by decide) (by decide) rfl (.tmp 251) rfl (wq r) (zaV _) rfl ?_;intro X41 q1 q q3;have HRW:Hid (Row X41 X40.heap.size (wq r) 27):=q1;have D41:Hid (Dr w0 b4 b6 L X41 _ (bs++[a,b]) qv qs):=D40.out.keep q;clear q q1 q3;simp only[Act.put,jA,jB,jC]))
  try rw[hc]
  refine zhE (on:=[r]) (n:=0) ⟨rfl,rfl,rfl,rfl,rfl,rfl,rfl,rfl,rfl,rfl,.inr ⟨_,_,rfl,rfl,HRW.out.all⟩,D41.out,HS.out.n64⟩ (nx+1) (r :: bs.reverse) (by have:=HN.out.1;rwa [List.append_nil] at this) (by simp) HS.out.ep HN.out.2.1 HN.out.2.2
theorem zlE (E:Env w0 pd ls ags rs cl G L Aa Ar na ca nr cr0 gk ok m ck b4 b6) (S:Sx ls ags rs cl G R Q m x l nx st qs bs tops l2 p2 s op) (W:Sw w0 b4 b6 L (.slice (some ⟨gk,ok,none⟩) m ck) (.slice Ar nr cr0) qv qs bs tops x.c x.p l2 p2 s op gv cv sv lst X) (hR:zcH G R=(RV,RE)) (hret:∀ a w,RP w0 b6 RV RE Q a w->Q0 .ret a w) (h6:6<=x.c) (h12:x.c<13) (hex:∀ a b st2 l n,tops=[a,b]->exi cl ags ls x.c x.a x.n (b :: a :: st2) l n=.error 104) (hok0:∀ a b,tops=[a,b]->(sm x.c a b).2=false) (code:Code):Code.wp Tryz.prog (rsq code) (Exit.inBlock 1 (Exit.then (fun a w=>WI w0 b4 b6 L (.slice (some ⟨gk,ok,none⟩) m ck) (.slice Ar nr cr0) cl ags ls rs R Q G m a w/\Wmu a<l) Q0)) ⟨lst.toArray,[]⟩ X:=by
 have htl:tops.length=2:=by rw[S.tl];exact (by decide:∀ c,c<13->6<=c->wn c=2) x.c h12 h6
 obtain⟨a,b,rfl⟩:=zgV htl
 obtain⟨z,hz⟩:∃ z:Int,(x.c:Int)=z:=⟨_,rfl⟩
 have hok:=hok0 a b rfl
 obtain⟨r,hr⟩:∃ r,r=(sm x.c a b).1:=⟨_,rfl⟩
 have HSM:Hid (∀ W,Calls Tryz.prog 16 #[.int .i64 z,.agg (wq a).toArray,.agg (wq b).toArray] W fun e w'=>e=.returned (.tuple #[.agg (wq r).toArray,.bool false])/\Below W.heap.size W w'):=fun W=>by
  have:=sum_c x.c a b (S.lt a (by simp)) (S.lt b (by simp)) (by omega) W
  rw[hok,<-hr,hz] at this
  exact this
 have hp:(z==6)=true\/((z==6)=false/\(z==7)=true)\/((z==6)=false/\(z==7)=false/\(z==8)=true)\/((z==6)=false/\(z==7)=false/\(z==8)=false/\(z==9)=true)\/((z==6)=false/\(z==7)=false/\(z==8)=false/\(z==9)=false/\(z==10)=true)\/((z==6)=false/\(z==7)=false/\(z==8)=false/\(z==9)=false/\(z==10)=false/\(z==11)=true)\/((z==6)=false/\(z==7)=false/\(z==8)=false/\(z==9)=false/\(z==10)=false/\(z==11)=false/\(z==12)=true):=by
  simp only[beq_eq_false_iff_ne,beq_iff_eq,ne_eq]
  omega
 have hge:¬ (24:Int)<=z:=by omega
 have n0:(z==0)=false:=by simp only[beq_eq_false_iff_ne,ne_eq];omega
 have n1:(z==1)=false:=by simp only[beq_eq_false_iff_ne,ne_eq];omega
 have n2:(z==2)=false:=by simp only[beq_eq_false_iff_ne,ne_eq];omega
 have n3:(z==3)=false:=by simp only[beq_eq_false_iff_ne,ne_eq];omega
 have n4:(z==4)=false:=by simp only[beq_eq_false_iff_ne,ne_eq];omega
 have n5:(z==5)=false:=by simp only[beq_eq_false_iff_ne,ne_eq];omega
 have HR:Hid (RV=zR/\RE=104/\Q=qs++[]):=S.err E.vals hR (S.stU.trans (by rw[if_neg (by omega),if_pos (by omega),S.stk];exact congrArg (·,([]:List (List Value))) (hex a b bs.reverse _ _ rfl)))
 clear hr hok hok0 hex
 obtain⟨f,_,e⟩:=W.open z hz 2 rfl
 have HD:Hid (Dr w0 b4 b6 L X sv (bs++[a,b]) qv qs):=W.dr
 have HS:Hid (Sx ls ags rs cl G R Q m x l nx st qs bs [a,b] l2 p2 s op):=S
 have HE:Hid (Env w0 pd ls ags rs cl G L Aa Ar na ca nr cr0 gk ok m ck b4 b6):=E
 have HV:Hid (Lw X 27 4 (.slice (some ⟨gv,0,none⟩) 2 cv) 2 (fw [a,b])):=W.v
 have hkb:(bs.length:Int)<=64:=by have:=S.n64;omega
 have hlb:(l2:Int)<=10000:=by have:=S.l2b;omega
 rw[e]
 clear e S W E
 unfold frc
 conv=>arg 2;whnf
 clear hz
 have HV0:Hid (X.rangeAt gv 0 (wq a)):=zcB HV.out 0 a rfl
 have HV1:Hid (X.rangeAt gv 4 (wq b)):=zcB HV.out 1 b rfl
 rcases hp with e6|⟨e6,e7⟩|⟨e6,e7,e8⟩|⟨e6,e7,e8,e9⟩|⟨e6,e7,e8,e9,e10⟩|⟨e6,e7,e8,e9,e10,e11⟩|⟨e6,e7,e8,e9,e10,e11,e12⟩
 all_goals
  go_upto_region 53 with fail
  refine t53 _ rfl gv cv a b r z false rfl rfl X HV0.out HV1.out HSM.out ?_
  intro l9 X40 b23 h9 hw e23 e24 r23 hb9
  have D40:Hid (Dr w0 b4 b6 L X40 _ (bs++[a,b]) qv qs):=HD.out.keep hb9
  have R40:Hid (Row X40 b23 (wq r) 27):=r23
  obtain⟨f9,hf9⟩:∃ f9:Nat->Value,f9=fun k=>l9.getD k undef:=⟨_,rfl⟩
  rw[show l9.getD 23 undef=f9 23 by rw[hf9]] at e23
  rw[show l9.getD 24 undef=f9 24 by rw[hf9]] at e24
  rw[zfJ bs53 _ l9 0 f9 (by rw[h9];rfl) (fun k=>by rw[Nat.zero_add,hf9]) hw]
  unfold bs53
  simp only[zlL,cond_true,cond_false,Nat.reduceAdd]
  rw[e23,e24]
  clear hw h9 hf9 e23 e24 r23 hb9
  go_wp2_with (refine zaD rfl 35 (.tmp 6) (.tmp 249) rfl b6 zR zR 35 rfl rfl D40.out.r6 rfl zaP zcW ?_;intro X9 (E9:Hid (X9=X40.setCells b6 0 zR)) (R9:Hid (Row X9 b6 zR 35));simp only[Act.put])
  try refine hret _ _ ?_
  exact (zzE rfl (by rw[HR.out.2.1];rfl) rfl D40.out E9.out R9.out HE.out.b6l HR.out.1 (by rw[HR.out.2.2,List.append_nil]))
theorem h_1 (E:Env w0 pd ls ags rs cl G L Aa Ar na ca nr cr0 gk ok m ck b4 b6) (S:Sx ls ags rs cl G R Q m x l nx st qs bs tops l2 p2 s op) (W:Sw w0 b4 b6 L (.slice (some ⟨gk,ok,none⟩) m ck) (.slice Ar nr cr0) qv qs bs tops x.c x.p l2 p2 s op gv cv sv lst X) (hR:zcH G R=(RV,RE)) (hret:∀ a w,RP w0 b6 RV RE Q a w->Q0 .ret a w) (hcx:x.c=1) (code:Code):Code.wp Tryz.prog (rsq code) (Exit.inBlock 1 (Exit.then (fun a w=>WI w0 b4 b6 L (.slice (some ⟨gk,ok,none⟩) m ck) (.slice Ar nr cr0) cl ags ls rs R Q G m a w/\Wmu a<l) Q0)) ⟨lst.toArray,[]⟩ X:=by
 have htl:tops.length=1:=by rw[S.tl,hcx];rfl
 obtain⟨a,rfl⟩:=List.length_eq_one_iff.1 htl
 obtain⟨hR2,hQ2,hl1,hlG⟩:=((S.rd.step E.vals x S.hx S.c28).2 _ _ _ (S.stU.trans (if_pos hcx))).1 hcx
 rw[hR2] at hR
 have h2:=Prod.mk.inj hR
 have hel:=S.el
 rw[hcx,show gT 1=1 from rfl] at hel
 have hrv:RV=wq a++[.int .i64 ((G:Int)-(l2:Int))]:=by
  have h3:=h2.1
  rw[S.stk] at h3
  rw[<-h3,hel]
  show wq a++[Value.int .i64 ((G-(l-1):Nat):Int)]=_
  rw[Int.ofNat_sub hlG]
 have HR:Hid (RV=wq a++[.int .i64 ((G:Int)-(l2:Int))]/\RE=0/\Q=qs++[]):=⟨hrv,h2.2.symm,hQ2⟩
 have HGL:Hid (0<=(G:Int)/\(G:Int)<=10000):=by have:=E.gas;show _/\_;omega
 have h47:=E.l47
 have H47:Hid (∀ X,Row X b4 L 30->X.cell? ⟨b4,47,none⟩=some (.int .i64 (G:Int))):=fun X r=>r.cell 47 _ h47
 clear h47 hR2 hR h2 hrv hQ2 hel hl1 hlG
 obtain⟨f,_,e⟩:=W.open 1 (by omega) 1 rfl
 have HD:Hid (Dr w0 b4 b6 L X sv (bs++[a]) qv qs):=W.dr
 have HS:Hid (Sx ls ags rs cl G R Q m x l nx st qs bs [a] l2 p2 s op):=S
 have HE:Hid (Env w0 pd ls ags rs cl G L Aa Ar na ca nr cr0 gk ok m ck b4 b6):=E
 have HV:Hid (Lw X 27 4 (.slice (some ⟨gv,0,none⟩) 1 cv) 1 (fw [a])):=W.v
 have hkb:(bs.length:Int)<=64:=by have:=S.n64;omega
 have hlb:(l2:Int)<=10000:=by have:=S.l2b;omega
 rw[e]
 clear e S W E
 unfold frc
 conv=>arg 2;whnf
 have HV0:Hid (X.rangeAt gv 0 (wq a)):=zcB HV.out 0 a rfl
 go_upto_region 33 with fail
 refine t33 _ rfl b4 b6 gv cv a (G:Int) (l2:Int) _ rfl rfl rfl rfl rfl X HD.out.r6 (H47.out X HD.out.r4) HV0.out HGL.out.1 HGL.out.2 (by omega) hlb ?_
 intro l9 X40 e6 e7 e8 e9
 go_wp2_with fail
 try refine hret _ _ ?_
 obtain⟨A7,c7,hvq,_,_⟩:=Lw.form HD.out.aq
 have hq:Q=qs:=by rw[HR.out.2.2,List.append_nil]
 refine⟨l9,A7,c7,rfl,e6,by rw[HR.out.2.1];exact e7,?_,?_,?_,?_⟩
 ·rw[hq,<-hvq];exact e8
 ·rw[HR.out.1,e9];exact Row.drew (HD.out.r6.over (by rw[List.length_append,zaV];rfl))
 ·rw[hq,e9,<-hvq]
  exact ztH (zeQ HD.out rfl)
 ·rw[e9];exact Below.drew (zaC HD.out.be HE.out.b6l _)
end
section
variable {w0:World} {pd:List (BitVec 8)} {ls:List Ins} {ags:List Nat} {rs:List (Nat × Int)} {cl:Cl} {G:Nat} {L:List Value} {Aa Ar:Option Addr} {na ca nr cr0 gk ok m ck b4 b6:Nat} {R:Except Int (Nat × Nat)} {Q:List (List Value)} {RV:List Value} {RE:Int} {Q0:Exit->Act->World->Prop} {I:Act->World->Prop}
variable {x:Ins} {l nx l2 p2 s gv cv:Nat} {st bs tops:List Nat} {qs:List (List Value)} {op:Int} {sv qv:Value} {lst:List Value} {X:World}
theorem h_0 (E:Env w0 pd ls ags rs cl G L Aa Ar na ca nr cr0 gk ok m ck b4 b6) (S:Sx ls ags rs cl G R Q m x l nx st qs bs tops l2 p2 s op) (W:Sw w0 b4 b6 L (.slice (some ⟨gk,ok,none⟩) m ck) (.slice Ar nr cr0) qv qs bs tops x.c x.p l2 p2 s op gv cv sv lst X) (hR:zcH G R=(RV,RE)) (hret:∀ a w,RP w0 b6 RV RE Q a w->Q0 .ret a w) (hcx:x.c=0) (code:Code):Code.wp Tryz.prog (rsq code) (Exit.inBlock 1 (Exit.then (fun a w=>WI w0 b4 b6 L (.slice (some ⟨gk,ok,none⟩) m ck) (.slice Ar nr cr0) cl ags ls rs R Q G m a w/\Wmu a<l) Q0)) ⟨lst.toArray,[]⟩ X:=by
 have htl:tops.length=0:=by rw[S.tl,hcx];rfl
 obtain rfl:tops=[]:=List.eq_nil_of_length_eq_zero htl
 obtain⟨h1,h2,h3⟩:=S.err E.vals hR (S.stU.trans (by rw[if_neg (by omega),if_pos (by omega),hcx];rfl))
 obtain⟨f,_,e⟩:=W.open 0 (by omega) 0 rfl
 have HD:Hid (Dr w0 b4 b6 L X sv (bs++[]) qv qs):=W.dr
 have HS:Hid (Sx ls ags rs cl G R Q m x l nx st qs bs [] l2 p2 s op):=S
 have HE:Hid (Env w0 pd ls ags rs cl G L Aa Ar na ca nr cr0 gk ok m ck b4 b6):=E
 have HV:Hid (Lw X 27 4 (.slice (some ⟨gv,0,none⟩) 0 cv) 0 (fw ([]:List Nat))):=W.v
 have hkb:(bs.length:Int)<=64:=by have:=S.n64;omega
 have hlb:(l2:Int)<=10000:=by have:=S.l2b;omega
 have HR:Hid (RV=zR/\RE=105/\Q=qs++[]):=⟨h1,h2,h3⟩
 clear h1 h2 h3
 rw[e]
 clear e S W E
 unfold frc
 conv=>arg 2;whnf
 go_wp2_with (refine zaD rfl 35 (.tmp 6) (.tmp 149) rfl b6 zR zR 35 rfl rfl HD.out.r6 rfl zaP zcW ?_;intro X9 (E9:Hid (X9=X.setCells b6 0 zR)) (R9:Hid (Row X9 b6 zR 35));simp only[Act.put])
 try refine hret _ _ ?_
 exact (zzE rfl (by rw[HR.out.2.1];rfl) rfl HD.out E9.out R9.out HE.out.b6l HR.out.1 (by rw[HR.out.2.2,List.append_nil]))
theorem h_3 (E:Env w0 pd ls ags rs cl G L Aa Ar na ca nr cr0 gk ok m ck b4 b6) (S:Sx ls ags rs cl G R Q m x l nx st qs bs tops l2 p2 s op) (W:Sw w0 b4 b6 L (.slice (some ⟨gk,ok,none⟩) m ck) (.slice Ar nr cr0) qv qs bs tops x.c x.p l2 p2 s op gv cv sv lst X) (hcx:x.c=3) (code:Code) (hc:code=rbt):Code.wp Tryz.prog (rsq code) (Exit.inBlock 1 (Exit.then (fun a w=>WI w0 b4 b6 L (.slice (some ⟨gk,ok,none⟩) m ck) (.slice Ar nr cr0) cl ags ls rs R Q G m a w/\Wmu a<l) Q0)) ⟨lst.toArray,[]⟩ X:=by
 have htl:tops.length=1:=by rw[S.tl,hcx];rfl
 obtain⟨a,rfl⟩:=List.length_eq_one_iff.1 htl
 have HN:Hid (Rd cl ags ls rs R Q G (bs.reverse) l2 (nx+1) (qs++[])/\nx+1<=ls.length/\l2<l):=S.next E.vals (S.stU.trans (by rw[if_neg (by omega),if_pos (by omega),hcx,S.stk];rfl)) (by omega)
 obtain⟨f,_,e⟩:=W.open 3 (by omega) 1 rfl
 have HD:Hid (Dr w0 b4 b6 L X sv (bs++[a]) qv qs):=W.dr
 have HS:Hid (Sx ls ags rs cl G R Q m x l nx st qs bs [a] l2 p2 s op):=S
 have HE:Hid (Env w0 pd ls ags rs cl G L Aa Ar na ca nr cr0 gk ok m ck b4 b6):=E
 have HV:Hid (Lw X 27 4 (.slice (some ⟨gv,0,none⟩) 1 cv) 1 (fw [a])):=W.v
 have hkb:(bs.length:Int)<=64:=by have:=S.n64;omega
 have hlb:(l2:Int)<=10000:=by have:=S.l2b;omega
 rw[e]
 clear e S W E
 unfold frc
 conv=>arg 2;whnf
 go_wp2_with fail
 try rw[hc]
 refine zhE (on:=[]) (n:=0) ⟨rfl,rfl,rfl,rfl,rfl,rfl,rfl,rfl,rfl,rfl,.inl ⟨rfl,rfl⟩,HD.out,HS.out.n64⟩ (nx+1) (bs.reverse) (by have:=HN.out.1;rwa [List.append_nil] at this) (by simp) HS.out.ep HN.out.2.1 HN.out.2.2
theorem h_13 (E:Env w0 pd ls ags rs cl G L Aa Ar na ca nr cr0 gk ok m ck b4 b6) (S:Sx ls ags rs cl G R Q m x l nx st qs bs tops l2 p2 s op) (W:Sw w0 b4 b6 L (.slice (some ⟨gk,ok,none⟩) m ck) (.slice Ar nr cr0) qv qs bs tops x.c x.p l2 p2 s op gv cv sv lst X) (hcx:x.c=13) (code:Code) (hc:code=rbt):Code.wp Tryz.prog (rsq code) (Exit.inBlock 1 (Exit.then (fun a w=>WI w0 b4 b6 L (.slice (some ⟨gk,ok,none⟩) m ck) (.slice Ar nr cr0) cl ags ls rs R Q G m a w/\Wmu a<l) Q0)) ⟨lst.toArray,[]⟩ X:=by
 have htl:tops.length=1:=by rw[S.tl,hcx];rfl
 obtain⟨a,rfl⟩:=List.length_eq_one_iff.1 htl
 obtain⟨B,hB⟩:∃ B,B=decide (a=0):=⟨_,rfl⟩
 obtain⟨r,hr⟩:∃ r,r=(if B=true then 1 else 0):=⟨_,rfl⟩
 have HN:Hid (Rd cl ags ls rs R Q G (r :: bs.reverse) l2 (nx+1) (qs++[])/\nx+1<=ls.length/\l2<l):=S.next E.vals (S.stU.trans (by rw[if_neg (by omega),if_pos (by omega),hcx,S.stk,hr,hB];rfl)) (by omega)
 have HNO:Hid (∀ X,Calls Tryz.prog 18 #[.agg (wq a).toArray] X fun e w'=>e=.returned (.bool B)/\Below X.heap.size X w'):=fun X=>zeO (ca:=wq a) rfl (S.lt a (by simp)) hB.symm X
 have HTR:Hid (∀ X,Calls Tryz.prog 17 #[.bool B] X fun e w'=>e=.returned (.agg (wq r).toArray)/\Below X.heap.size X w'):=fun X=>znP (cr:=wq r) B (by rw[hr];rfl) X
 clear hB hr
 obtain⟨f,_,e⟩:=W.open 13 (by omega) 1 rfl
 have HD:Hid (Dr w0 b4 b6 L X sv (bs++[a]) qv qs):=W.dr
 have HS:Hid (Sx ls ags rs cl G R Q m x l nx st qs bs [a] l2 p2 s op):=S
 have HE:Hid (Env w0 pd ls ags rs cl G L Aa Ar na ca nr cr0 gk ok m ck b4 b6):=E
 have HV:Hid (Lw X 27 4 (.slice (some ⟨gv,0,none⟩) 1 cv) 1 (fw [a])):=W.v
 have hkb:(bs.length:Int)<=64:=by have:=S.n64;omega
 have hlb:(l2:Int)<=10000:=by have:=S.l2b;omega
 rw[e]
 clear e S W E
 unfold frc
 conv=>arg 2;whnf
 have HV0:Hid (X.rangeAt gv 0 (wq a)):=zcB HV.out 0 a rfl
 go_wp2_with (first
  |(refine wpList_load_mid rfl 27 (.tmp 256) rfl gv 0 rfl (wq a) _ HV0.out Tryz.underlying27 rfl (zaU _) ?_;simp only[Act.put,jA,jB,jC])
  |(go_at_call 18;refine (HNO.out X).mono ?_;rintro e X9 ⟨rfl,q⟩;have D9:Hid (Dr w0 b4 b6 L X9 _ (bs++[a]) qv qs):=HD.out.keep q;clear q)
  |(go_at_call 17;refine (HTR.out X9).mono ?_;rintro e X10 ⟨rfl,q⟩;have D10:Hid (Dr w0 b4 b6 L X10 _ (bs++[a]) qv qs):=D9.out.keep q;clear q)
  |(refine zbL 28 27 4 Tryz.underlying28 zcM (by decide) (by decide) rfl (.tmp 259) rfl (wq r) (zaV _) rfl ?_;intro X11 q1 q q3;have HRW:Hid (Row X11 X10.heap.size (wq r) 27):=q1;have D11:Hid (Dr w0 b4 b6 L X11 _ (bs++[a]) qv qs):=D10.out.keep q;clear q q1 q3;simp only[Act.put,jA,jB,jC]))
 try rw[hc]
 refine zhE (on:=[r]) (n:=0) ⟨rfl,rfl,rfl,rfl,rfl,rfl,rfl,rfl,rfl,rfl,.inr ⟨_,_,rfl,rfl,HRW.out.all⟩,D11.out,HS.out.n64⟩ (nx+1) (r :: bs.reverse) (by have:=HN.out.1;rwa [List.append_nil] at this) (by simp) HS.out.ep HN.out.2.1 HN.out.2.2
theorem h_4 (E:Env w0 pd ls ags rs cl G L Aa Ar na ca nr cr0 gk ok m ck b4 b6) (S:Sx ls ags rs cl G R Q m x l nx st qs bs tops l2 p2 s op) (W:Sw w0 b4 b6 L (.slice (some ⟨gk,ok,none⟩) m ck) (.slice Ar nr cr0) qv qs bs tops x.c x.p l2 p2 s op gv cv sv lst X) (hcx:x.c=4) (code:Code) (hc:code=rbt):Code.wp Tryz.prog (rsq code) (Exit.inBlock 1 (Exit.then (fun a w=>WI w0 b4 b6 L (.slice (some ⟨gk,ok,none⟩) m ck) (.slice Ar nr cr0) cl ags ls rs R Q G m a w/\Wmu a<l) Q0)) ⟨lst.toArray,[]⟩ X:=by
 have htl:tops.length=0:=by rw[S.tl,hcx];rfl
 obtain rfl:tops=[]:=List.eq_nil_of_length_eq_zero htl
 have hop:op=(x.n:Int):=S.eo (.inl hcx)
 have hsb:st=bs.reverse:=by rw[S.stk];rfl
 have hfew:=S.few
 rw[hcx,show tT 4 x.n=1+x.n from rfl,hsb,List.length_reverse] at hfew
 obtain⟨r,hr⟩:∃ r,r=bs.reverse.getD x.n 0:=⟨_,rfl⟩
 have HN:Hid (Rd cl ags ls rs R Q G (r :: bs.reverse) l2 (nx+1) (qs++[])/\nx+1<=ls.length/\l2<l):=S.next E.vals (S.stU.trans (by rw[if_neg (by omega),if_pos (by omega),hcx,hsb,hr];rfl)) (by omega)
 obtain⟨j,hj⟩:∃ j,j=bs.length-1-x.n:=⟨_,rfl⟩
 have ej:(bs.length:Int)-1-op=(j:Int):=by omega
 have HJ:Hid (j<bs.length):=by show j<_;omega
 have HJR:Hid (bs[j]?=some r):=by
  show _=_
  rw[hr,List.getD_eq_getElem?_getD,List.getElem?_reverse (by omega),show bs.length-1-x.n=j from hj.symm,List.getElem?_eq_getElem HJ.out]
  rfl
 have hopb:0<=op/\op<=64:=by have:=S.n64;simp at this;omega
 obtain⟨ho1,ho2⟩:=hopb
 have hst:=W.dr.st
 rw[List.append_nil] at hst
 obtain⟨g0,cap0,hsv,_⟩:=Lw.open hst (by omega)
 subst hsv
 have HV0:Hid (X.rangeAt g0 (j*4) (wq r)):=zjV (Lw.range hst) j r HJR.out
 clear hr hj hsb hfew hop hst
 obtain⟨f,_,e⟩:=W.open 4 (by omega) 0 rfl
 have HD:Hid (Dr w0 b4 b6 L X (.slice (some ⟨g0,0,none⟩) bs.length cap0) (bs++[]) qv qs):=W.dr
 have HS:Hid (Sx ls ags rs cl G R Q m x l nx st qs bs [] l2 p2 s op):=S
 have HE:Hid (Env w0 pd ls ags rs cl G L Aa Ar na ca nr cr0 gk ok m ck b4 b6):=E
 have HV:Hid (Lw X 27 4 (.slice (some ⟨gv,0,none⟩) 0 cv) 0 (fw ([]:List Nat))):=W.v
 have hkb:(bs.length:Int)<=64:=by have:=S.n64;omega
 have hlb:(l2:Int)<=10000:=by have:=S.l2b;omega
 rw[e]
 clear e S W E
 unfold frc
 conv=>arg 2;whnf
 go_wp2_with (first
  |(refine znT rfl rfl g0 bs.length cap0 j rfl rfl HJ.out ?_;simp only[Act.put,jA,jB,jC])
  |(refine wpList_load_mid rfl 27 (.tmp 197) rfl g0 (j*4) rfl (wq r) _ HV0.out Tryz.underlying27 rfl (zaU _) ?_;simp only[Act.put,jA,jB,jC])
  |(refine zbL 28 27 4 Tryz.underlying28 zcM (by decide) (by decide) rfl (.tmp 198) rfl (wq r) (zaV _) rfl ?_;intro X11 q1 q q3;have HRW:Hid (Row X11 X.heap.size (wq r) 27):=q1;have D11:Hid (Dr w0 b4 b6 L X11 _ (bs++[]) qv qs):=HD.out.keep q;clear q q1 q3;simp only[Act.put,jA,jB,jC]))
 try rw[hc]
 refine zhE (on:=[r]) (n:=0) ⟨rfl,rfl,rfl,rfl,rfl,rfl,rfl,rfl,rfl,rfl,.inr ⟨_,_,rfl,rfl,HRW.out.all⟩,D11.out,HS.out.n64⟩ (nx+1) (r :: bs.reverse) (by have:=HN.out.1;rwa [List.append_nil] at this) (by simp) HS.out.ep HN.out.2.1 HN.out.2.2
theorem h_14 (E:Env w0 pd ls ags rs cl G L Aa Ar na ca nr cr0 gk ok m ck b4 b6) (S:Sx ls ags rs cl G R Q m x l nx st qs bs tops l2 p2 s op) (W:Sw w0 b4 b6 L (.slice (some ⟨gk,ok,none⟩) m ck) (.slice Ar nr cr0) qv qs bs tops x.c x.p l2 p2 s op gv cv sv lst X) (hcx:x.c=14) (code:Code) (hc:code=rbt):Code.wp Tryz.prog (rsq code) (Exit.inBlock 1 (Exit.then (fun a w=>WI w0 b4 b6 L (.slice (some ⟨gk,ok,none⟩) m ck) (.slice Ar nr cr0) cl ags ls rs R Q G m a w/\Wmu a<l) Q0)) ⟨lst.toArray,[]⟩ X:=by
 have htl:tops.length=0:=by rw[S.tl,hcx];rfl
 obtain rfl:tops=[]:=List.eq_nil_of_length_eq_zero htl
 have HN:Hid (Rd cl ags ls rs R Q G (bs.reverse) l2 (stf ls x.n-1) (qs++[])/\stf ls x.n-1<=ls.length/\l2<l):=S.next E.vals (S.stU.trans (by rw[if_neg (by omega),if_pos (by omega),hcx,S.stk];rfl)) (by omega)
 obtain⟨hm,hxp,_,_,bb,br,hd,hbb,how,hro,_,hpn⟩:=ziA E.pdl E.chk S.hx
 obtain⟨hw1,hw2⟩:=zoQ (by omega) how hro
 have hdl:=congrArg List.length hd
 rw[List.length_drop,List.length_cons,E.pdl] at hdl
 have HTG:Hid (∀ X,Below w0.heap.size w0 X->Calls Tryz.prog 19 #[.slice (some ⟨gk,ok,none⟩) m ck,.int .i64 (x.p:Int)] X fun e w'=>e=.returned (.int .i64 (x.n:Int))/\Below X.heap.size X w'):=fun X hX=>by
  have h1:=E.at (x.p+1) (by omega) X hX
  have h2:=E.at (x.p+2) (by omega) X hX
  rw[zdA hd 1,List.getD_cons_succ] at h1
  rw[zdA hd 2,List.getD_cons_succ] at h2
  have:=zgY gk ok m ck x.p _ _ (by omega) hm (BitVec.isLt _) (BitVec.isLt _) X h1 h2
  rwa [hw2] at this
 have HJP:Hid (x.n=zgT ls m (stf ls x.n-1)):=(stf_at m (E.vals.jmp x (List.mem_of_getElem? S.hx) (by omega))).symm
 clear hm hxp hd hbb how hro hpn hw1 hw2 hdl
 obtain⟨f,_,e⟩:=W.open 14 (by omega) 0 rfl
 have HD:Hid (Dr w0 b4 b6 L X sv (bs++[]) qv qs):=W.dr
 have HS:Hid (Sx ls ags rs cl G R Q m x l nx st qs bs [] l2 p2 s op):=S
 have HE:Hid (Env w0 pd ls ags rs cl G L Aa Ar na ca nr cr0 gk ok m ck b4 b6):=E
 have HV:Hid (Lw X 27 4 (.slice (some ⟨gv,0,none⟩) 0 cv) 0 (fw ([]:List Nat))):=W.v
 have hkb:(bs.length:Int)<=64:=by have:=S.n64;omega
 have hlb:(l2:Int)<=10000:=by have:=S.l2b;omega
 rw[e]
 clear e S W E
 unfold frc
 conv=>arg 2;whnf
 go_wp2_with (go_at_call 19;refine (HTG.out X HD.out.be).mono ?_;rintro e X9 ⟨rfl,q⟩;have D9:Hid (Dr w0 b4 b6 L X9 _ (bs++[]) qv qs):=HD.out.keep q;clear q)
 try rw[hc]
 refine zhE (on:=[]) (n:=0) ⟨rfl,rfl,rfl,rfl,rfl,rfl,rfl,rfl,rfl,rfl,.inl ⟨rfl,rfl⟩,D9.out,HS.out.n64⟩ (stf ls x.n-1) (bs.reverse) (by have:=HN.out.1;rwa [List.append_nil] at this) (by simp) HJP.out HN.out.2.1 HN.out.2.2
theorem h_15 (E:Env w0 pd ls ags rs cl G L Aa Ar na ca nr cr0 gk ok m ck b4 b6) (S:Sx ls ags rs cl G R Q m x l nx st qs bs tops l2 p2 s op) (W:Sw w0 b4 b6 L (.slice (some ⟨gk,ok,none⟩) m ck) (.slice Ar nr cr0) qv qs bs tops x.c x.p l2 p2 s op gv cv sv lst X) (hcx:x.c=15) (code:Code) (hc:code=rbt):Code.wp Tryz.prog (rsq code) (Exit.inBlock 1 (Exit.then (fun a w=>WI w0 b4 b6 L (.slice (some ⟨gk,ok,none⟩) m ck) (.slice Ar nr cr0) cl ags ls rs R Q G m a w/\Wmu a<l) Q0)) ⟨lst.toArray,[]⟩ X:=by
 have htl:tops.length=1:=by rw[S.tl,hcx];rfl
 obtain⟨a,rfl⟩:=List.length_eq_one_iff.1 htl
 by_cases ha:a=0
 case pos=>
  have HN:Hid (Rd cl ags ls rs R Q G (bs.reverse) l2 (nx+1) (qs++[])/\nx+1<=ls.length/\l2<l):=S.next E.vals (S.stU.trans (by rw[if_neg (by omega),if_pos (by omega),hcx,S.stk];show ((Except.ok (bs.reverse,if a=0 then nx+1 else stf ls x.n-1):Except Int (List Nat × Nat)),([]:List (List Value)))=_;rw[if_pos ha])) (by omega)
  have HNO:Hid (∀ X,Calls Tryz.prog 18 #[.agg (wq a).toArray] X fun e w'=>e=.returned (.bool true)/\Below X.heap.size X w'):=fun X=>zeO (ca:=wq a) rfl (S.lt a (by simp)) (by simp [ha]) X
  clear ha
  obtain⟨f,_,e⟩:=W.open 15 (by omega) 1 rfl
  have HD:Hid (Dr w0 b4 b6 L X sv (bs++[a]) qv qs):=W.dr
  have HS:Hid (Sx ls ags rs cl G R Q m x l nx st qs bs [a] l2 p2 s op):=S
  have HE:Hid (Env w0 pd ls ags rs cl G L Aa Ar na ca nr cr0 gk ok m ck b4 b6):=E
  have HV:Hid (Lw X 27 4 (.slice (some ⟨gv,0,none⟩) 1 cv) 1 (fw [a])):=W.v
  have hkb:(bs.length:Int)<=64:=by have:=S.n64;omega
  have hlb:(l2:Int)<=10000:=by have:=S.l2b;omega
  rw[e]
  clear e S W E
  unfold frc
  conv=>arg 2;whnf
  have HV0:Hid (X.rangeAt gv 0 (wq a)):=zcB HV.out 0 a rfl
  go_wp2_with (first
   |(refine wpList_load_mid rfl 27 (.tmp 269) rfl gv 0 rfl (wq a) _ HV0.out Tryz.underlying27 rfl (zaU _) ?_;simp only[Act.put,jA,jB,jC])
   |(go_at_call 18;refine (HNO.out X).mono ?_;rintro e X9 ⟨rfl,q⟩;have D9:Hid (Dr w0 b4 b6 L X9 _ (bs++[a]) qv qs):=HD.out.keep q;clear q))
  try rw[hc]
  refine zhE (on:=[]) (n:=0) ⟨rfl,rfl,rfl,rfl,rfl,rfl,rfl,rfl,rfl,rfl,.inl ⟨rfl,rfl⟩,D9.out,HS.out.n64⟩ (nx+1) (bs.reverse) (by have:=HN.out.1;rwa [List.append_nil] at this) (by simp) HS.out.ep HN.out.2.1 HN.out.2.2
 case neg=>
  have HN:Hid (Rd cl ags ls rs R Q G (bs.reverse) l2 (stf ls x.n-1) (qs++[])/\stf ls x.n-1<=ls.length/\l2<l):=S.next E.vals (S.stU.trans (by rw[if_neg (by omega),if_pos (by omega),hcx,S.stk];show ((Except.ok (bs.reverse,if a=0 then nx+1 else stf ls x.n-1):Except Int (List Nat × Nat)),([]:List (List Value)))=_;rw[if_neg ha])) (by omega)
  have HNO:Hid (∀ X,Calls Tryz.prog 18 #[.agg (wq a).toArray] X fun e w'=>e=.returned (.bool false)/\Below X.heap.size X w'):=fun X=>zeO (ca:=wq a) rfl (S.lt a (by simp)) (by simp [ha]) X
  clear ha
  obtain⟨hm,hxp,_,_,bb,br,hd,hbb,how,hro,_,hpn⟩:=ziA E.pdl E.chk S.hx
  obtain⟨hw1,hw2⟩:=zoQ (by omega) how hro
  have hdl:=congrArg List.length hd
  rw[List.length_drop,List.length_cons,E.pdl] at hdl
  have HTG:Hid (∀ X,Below w0.heap.size w0 X->Calls Tryz.prog 19 #[.slice (some ⟨gk,ok,none⟩) m ck,.int .i64 (x.p:Int)] X fun e w'=>e=.returned (.int .i64 (x.n:Int))/\Below X.heap.size X w'):=fun X hX=>by
   have h1:=E.at (x.p+1) (by omega) X hX
   have h2:=E.at (x.p+2) (by omega) X hX
   rw[zdA hd 1,List.getD_cons_succ] at h1
   rw[zdA hd 2,List.getD_cons_succ] at h2
   have:=zgY gk ok m ck x.p _ _ (by omega) hm (BitVec.isLt _) (BitVec.isLt _) X h1 h2
   rwa [hw2] at this
  have HJP:Hid (x.n=zgT ls m (stf ls x.n-1)):=(stf_at m (E.vals.jmp x (List.mem_of_getElem? S.hx) (by omega))).symm
  clear hm hxp hd hbb how hro hpn hw1 hw2 hdl
  obtain⟨f,_,e⟩:=W.open 15 (by omega) 1 rfl
  have HD:Hid (Dr w0 b4 b6 L X sv (bs++[a]) qv qs):=W.dr
  have HS:Hid (Sx ls ags rs cl G R Q m x l nx st qs bs [a] l2 p2 s op):=S
  have HE:Hid (Env w0 pd ls ags rs cl G L Aa Ar na ca nr cr0 gk ok m ck b4 b6):=E
  have HV:Hid (Lw X 27 4 (.slice (some ⟨gv,0,none⟩) 1 cv) 1 (fw [a])):=W.v
  have hkb:(bs.length:Int)<=64:=by have:=S.n64;omega
  have hlb:(l2:Int)<=10000:=by have:=S.l2b;omega
  rw[e]
  clear e S W E
  unfold frc
  conv=>arg 2;whnf
  have HV0:Hid (X.rangeAt gv 0 (wq a)):=zcB HV.out 0 a rfl
  go_wp2_with (first
   |(refine wpList_load_mid rfl 27 (.tmp 269) rfl gv 0 rfl (wq a) _ HV0.out Tryz.underlying27 rfl (zaU _) ?_;simp only[Act.put,jA,jB,jC])
   |(go_at_call 18;refine (HNO.out X).mono ?_;rintro e X9 ⟨rfl,q⟩;have D9:Hid (Dr w0 b4 b6 L X9 _ (bs++[a]) qv qs):=HD.out.keep q;clear q)
   |(go_at_call 19;refine (HTG.out X9 D9.out.be).mono ?_;rintro e X10 ⟨rfl,q⟩;have D10:Hid (Dr w0 b4 b6 L X10 _ (bs++[a]) qv qs):=D9.out.keep q;clear q))
  try rw[hc]
  refine zhE (on:=[]) (n:=0) ⟨rfl,rfl,rfl,rfl,rfl,rfl,rfl,rfl,rfl,rfl,.inl ⟨rfl,rfl⟩,D10.out,HS.out.n64⟩ (stf ls x.n-1) (bs.reverse) (by have:=HN.out.1;rwa [List.append_nil] at this) (by simp) HJP.out HN.out.2.1 HN.out.2.2
end
section
variable {w0:World} {pd:List (BitVec 8)} {ls:List Ins} {ags:List Nat} {rs:List (Nat × Int)} {cl:Cl} {G:Nat} {L:List Value} {Aa Ar:Option Addr} {na ca nr cr0 gk ok m ck b4 b6:Nat} {R:Except Int (Nat × Nat)} {Q:List (List Value)} {RV:List Value} {RE:Int} {Q0:Exit->Act->World->Prop}
theorem r_end2 (E:Env w0 pd ls ags rs cl G L Aa Ar na ca nr cr0 gk ok m ck b4 b6) (hR:zcH G R=(RV,RE)) (f:Nat->Value) (sv qv:Value) (l nx p:Nat) (st:List Nat) (qs:List (List Value)) (w:World) (D:Dr w0 b4 b6 L w sv st.reverse qv qs) (hRd:Rd cl ags ls rs R Q G st l nx qs) (hp:p=zgT ls m nx) (hn:ls[nx]?=none) (hret:∀ a w,RP w0 b6 RV RE Q a w->Q0 .ret a w):Code.wp Tryz.prog zhF (Exit.then (fun a w=>WI w0 b4 b6 L (.slice (some ⟨gk,ok,none⟩) m ck) (.slice Ar nr cr0) cl ags ls rs R Q G m a w/\Wmu a<l) Q0) ⟨frh (.slice (some ⟨gk,ok,none⟩) m ck) (.slice Ar nr cr0) b4 b6 sv qv l p f,[]⟩ w:=by
 unfold frh
 obtain⟨hR2,hQ2⟩:=rd_none hRd hn
 rw[hR2] at hR
 have h2:=Prod.mk.inj hR
 have HRV:Hid (RV=zR):=h2.1.symm
 have HRE:Hid (RE=106):=h2.2.symm
 have HQQ:Hid (Q=qs):=hQ2
 have HB6:Hid (w0.heap.size<=b6):=E.b6l
 rw[ztT hn] at hp
 have HD:Hid (Dr w0 b4 b6 L w sv st.reverse qv qs):=D
 subst hp
 clear h2 hR hR2 hQ2 hn hRd D E
 conv=>arg 2;whnf
 go_wp2_with (refine zaD rfl 35 (.tmp 6) (.tmp 72) rfl b6 zR zR 35 rfl rfl HD.out.r6 rfl zaP zcW ?_;intro X9 (E9:Hid (X9=w.setCells b6 0 zR)) (R9:Hid (Row X9 b6 zR 35));simp only[Act.put])
 try refine hret _ _ ?_
 obtain⟨A7,c7,hv,_,_⟩:=Lw.form HD.out.aq
 refine⟨_,A7,c7,rfl,?_,?_,?_,?_,?_,?_⟩
 ·rfl
 ·rw[HRE.out];rfl
 ·rw[HQQ.out,<-hv];rfl
 ·rw[HRV.out];exact R9.out
 ·rw[HQQ.out,<-hv];exact zeQ HD.out E9.out
 ·rw[E9.out];exact zaC HD.out.be HB6.out zR
theorem r_gas2 (E:Env w0 pd ls ags rs cl G L Aa Ar na ca nr cr0 gk ok m ck b4 b6) (hR:zcH G R=(RV,RE)) (f:Nat->Value) (sv qv:Value) (l nx p:Nat) (st:List Nat) (qs:List (List Value)) (w:World) (D:Dr w0 b4 b6 L w sv st.reverse qv qs) (hRd:Rd cl ags ls rs R Q G st l nx qs) (hp:p=zgT ls m nx) (x:Ins) (hx:ls[nx]?=some x) (hg:l<gT x.c) (hret:∀ a w,RP w0 b6 RV RE Q a w->Q0 .ret a w):Code.wp Tryz.prog zhF (Exit.then (fun a w=>WI w0 b4 b6 L (.slice (some ⟨gk,ok,none⟩) m ck) (.slice Ar nr cr0) cl ags ls rs R Q G m a w/\Wmu a<l) Q0) ⟨frh (.slice (some ⟨gk,ok,none⟩) m ck) (.slice Ar nr cr0) b4 b6 sv qv l p f,[]⟩ w:=by
 unfold frh
 obtain⟨hm,hxp,hc28,hpl,bb,br,hd,hbb,how,hro,hsz,hpn⟩:=ziA E.pdl E.chk hx
 rw[hpl] at hp
 have hb0:=zdA hd 0
 rw[Nat.add_zero,List.getD_cons_zero] at hb0
 have hk0:=fun X hX=>E.at x.p hxp X hX
 rw[hb0,hbb] at hk0
 have HK0:Hid (∀ X,Below w0.heap.size w0 X->X.cell? ⟨gk,ok+x.p,none⟩=some (.int .u8 ((x.c:Nat):Int))):=hk0
 have HSZ:Hid (∀ X,Below w0.heap.size w0 X->Calls Tryz.prog 11 #[.slice (some ⟨gk,ok,none⟩) m ck,.int .i64 (x.p:Int)] X fun e w'=>e=.returned (.int .i64 (1+ow (zaZ x.c) br:Nat))/\w'=X):=fun X hX=>by
  have:=zhP gk ok m ck x.p pd E.pdl hxp hm X (zaS E.code hX)
  rwa [hsz] at this
 have HPR:Hid (∀ X,Calls Tryz.prog 12 #[.int .i64 (x.c:Int)] X fun e w'=>e=.returned (.int .i64 (gT x.c:Int))/\Below X.heap.size X w'):=fun X=>znG x.c hc28 X
 have HWA:Hid (∀ X,Calls Tryz.prog 13 #[.int .i64 (x.c:Int)] X fun e w'=>e=.returned (.int .i64 (wn x.c:Int))/\Below X.heap.size X w'):=fun X=>znR x.c hc28 X
 have HLV:Hid (∀ X,Calls Tryz.prog 14 #[.int .i64 (x.c:Int)] X fun e w'=>e=.returned (.int .i64 (lv x.c:Int))/\Below X.heap.size X w'):=fun X=>zkB x.c hc28 X
 have hq:stU cl ags ls rs x st l nx qs.length=(.error 102,[]):=by unfold stU;rw[if_pos hg]
 obtain⟨hR2,hQ2,_⟩:=(hRd.step E.vals x hx hc28).1 _ _ hq
 rw[List.append_nil] at hQ2
 rw[hR2] at hR
 have h2:=Prod.mk.inj hR
 have HRV:Hid (RV=zR):=h2.1.symm
 have HRE:Hid (RE=102):=h2.2.symm
 have HQQ:Hid (Q=qs):=hQ2
 have HB6:Hid (w0.heap.size<=b6):=E.b6l
 have HD:Hid (Dr w0 b4 b6 L w sv st.reverse qv qs):=D
 have hml:(m:Int)<=1024:=by omega
 have hpm:(x.p:Int)<(m:Int):=by omega
 have hpm2:¬ (m:Int)<=(x.p:Int):=by omega
 have eC:IntKind.i64.wrap (x.c:Int)=(x.c:Int):=by rw[IntKind.wrap_i64];omega
 have hci:(x.c:Int)<28:=by omega
 have hS:Hid (∀ X,Below w0.heap.size w0 X->X.cell? ⟨gk,ok+x.p,none⟩=some (.int .u8 ((x.c:Nat):Int))):=HK0
 have k0:=HK0.out w D.be
 have hl:(l:Int)<=10000:=by have:=hRd.2.1;omega
 subst hp
 clear h2 hR hR2 hQ2 hRd D E hk0 hq hb0 hbb hd how hro hsz hpn hpl hx
 generalize x.p=p at *
 generalize x.c=c at *
 generalize 1+ow (zaZ c) br=s at *
 generalize gT c=pr at *
 have hgi:(l:Int)<(pr:Int):=by omega
 conv=>arg 2;whnf
 go_upto_region 12 with fail
 go_upto_region 13 with (go_at_call 11;refine (HSZ.out w HD.out.be).mono ?_;rintro e X0 ⟨rfl,hq⟩;obtain rfl:=hq.symm)
 go_upto_region 14 with (go_at_call 12;refine (HPR.out w).mono ?_;rintro e X1 ⟨rfl,q⟩;have D1:Hid (Dr w0 b4 b6 L X1 sv st.reverse qv qs):=HD.out.keep q;clear q)
 go_wp2_with (refine zaD rfl 35 (.tmp 6) (.tmp 86) rfl b6 zR zR 35 rfl rfl D1.out.r6 rfl zaP zcW ?_;intro X9 (E9:Hid (X9=X1.setCells b6 0 zR)) (R9:Hid (Row X9 b6 zR 35));simp only[Act.put])
 try refine hret _ _ ?_
 obtain⟨A7,c7,hv,_,_⟩:=Lw.form D1.out.aq
 refine⟨_,A7,c7,rfl,?_,?_,?_,?_,?_,?_⟩
 ·rfl
 ·rw[HRE.out];rfl
 ·rw[HQQ.out,<-hv];rfl
 ·rw[HRV.out];exact R9.out
 ·rw[HQQ.out,<-hv];exact zeQ D1.out E9.out
 ·rw[E9.out];exact zaC D1.out.be HB6.out zR
variable {x:Ins} {l nx l2 p2 s gv cv:Nat} {st bs tops:List Nat} {qs:List (List Value)} {op:Int} {sv qv:Value} {lst:List Value} {X:World}
theorem h_s6 (E:Env w0 pd ls ags rs cl G L Aa Ar na ca nr cr0 gk ok m ck b4 b6) (S:Sx ls ags rs cl G R Q m x l nx st qs bs tops l2 p2 s op) (W:Sw w0 b4 b6 L (.slice (some ⟨gk,ok,none⟩) m ck) (.slice Ar nr cr0) qv qs bs tops x.c x.p l2 p2 s op gv cv sv lst X) (hR:zcH G R=(RV,RE)) (hret:∀ a w,RP w0 b6 RV RE Q a w->Q0 .ret a w) (hcx:x.c=6):Code.wp Tryz.prog (rsq rbt) (Exit.inBlock 1 (Exit.then (fun a w=>WI w0 b4 b6 L (.slice (some ⟨gk,ok,none⟩) m ck) (.slice Ar nr cr0) cl ags ls rs R Q G m a w/\Wmu a<l) Q0)) ⟨lst.toArray,[]⟩ X:=by
 obtain⟨a,b,ht⟩:=zgV (show tops.length=2 by rw[S.tl,hcx];rfl)
 cases hok:(sm 6 a b).2 with
 |true=>exact zmQ E S W (by omega) (by omega) (fun a' b' st2 l n h=>by
   obtain⟨rfl,rfl⟩:a=a'/\b=b':=by simpa using ht.symm.trans h
   rw[hcx];exact zxV hok) (fun a' b' h=>by
   obtain⟨rfl,rfl⟩:a=a'/\b=b':=by simpa using ht.symm.trans h
   rw[hcx];exact hok) _ rfl
 |false=>exact zlE E S W hR hret (by omega) (by omega) (fun a' b' st2 l n h=>by
   obtain⟨rfl,rfl⟩:a=a'/\b=b':=by simpa using ht.symm.trans h
   rw[hcx];exact zxR hok) (fun a' b' h=>by
   obtain⟨rfl,rfl⟩:a=a'/\b=b':=by simpa using ht.symm.trans h
   rw[hcx];exact hok) _
theorem h_s7 (E:Env w0 pd ls ags rs cl G L Aa Ar na ca nr cr0 gk ok m ck b4 b6) (S:Sx ls ags rs cl G R Q m x l nx st qs bs tops l2 p2 s op) (W:Sw w0 b4 b6 L (.slice (some ⟨gk,ok,none⟩) m ck) (.slice Ar nr cr0) qv qs bs tops x.c x.p l2 p2 s op gv cv sv lst X) (hR:zcH G R=(RV,RE)) (hret:∀ a w,RP w0 b6 RV RE Q a w->Q0 .ret a w) (hcx:x.c=7):Code.wp Tryz.prog (rsq rbt) (Exit.inBlock 1 (Exit.then (fun a w=>WI w0 b4 b6 L (.slice (some ⟨gk,ok,none⟩) m ck) (.slice Ar nr cr0) cl ags ls rs R Q G m a w/\Wmu a<l) Q0)) ⟨lst.toArray,[]⟩ X:=by
 obtain⟨a,b,ht⟩:=zgV (show tops.length=2 by rw[S.tl,hcx];rfl)
 cases hok:(sm 7 a b).2 with
 |true=>exact zmQ E S W (by omega) (by omega) (fun a' b' st2 l n h=>by
   obtain⟨rfl,rfl⟩:a=a'/\b=b':=by simpa using ht.symm.trans h
   rw[hcx];exact zxW hok) (fun a' b' h=>by
   obtain⟨rfl,rfl⟩:a=a'/\b=b':=by simpa using ht.symm.trans h
   rw[hcx];exact hok) _ rfl
 |false=>exact zlE E S W hR hret (by omega) (by omega) (fun a' b' st2 l n h=>by
   obtain⟨rfl,rfl⟩:a=a'/\b=b':=by simpa using ht.symm.trans h
   rw[hcx];exact zxS hok) (fun a' b' h=>by
   obtain⟨rfl,rfl⟩:a=a'/\b=b':=by simpa using ht.symm.trans h
   rw[hcx];exact hok) _
theorem h_s8 (E:Env w0 pd ls ags rs cl G L Aa Ar na ca nr cr0 gk ok m ck b4 b6) (S:Sx ls ags rs cl G R Q m x l nx st qs bs tops l2 p2 s op) (W:Sw w0 b4 b6 L (.slice (some ⟨gk,ok,none⟩) m ck) (.slice Ar nr cr0) qv qs bs tops x.c x.p l2 p2 s op gv cv sv lst X) (hR:zcH G R=(RV,RE)) (hret:∀ a w,RP w0 b6 RV RE Q a w->Q0 .ret a w) (hcx:x.c=8):Code.wp Tryz.prog (rsq rbt) (Exit.inBlock 1 (Exit.then (fun a w=>WI w0 b4 b6 L (.slice (some ⟨gk,ok,none⟩) m ck) (.slice Ar nr cr0) cl ags ls rs R Q G m a w/\Wmu a<l) Q0)) ⟨lst.toArray,[]⟩ X:=by
 obtain⟨a,b,ht⟩:=zgV (show tops.length=2 by rw[S.tl,hcx];rfl)
 cases hok:(sm 8 a b).2 with
 |true=>exact zmQ E S W (by omega) (by omega) (fun a' b' st2 l n h=>by
   obtain⟨rfl,rfl⟩:a=a'/\b=b':=by simpa using ht.symm.trans h
   rw[hcx];exact zxX hok) (fun a' b' h=>by
   obtain⟨rfl,rfl⟩:a=a'/\b=b':=by simpa using ht.symm.trans h
   rw[hcx];exact hok) _ rfl
 |false=>exact zlE E S W hR hret (by omega) (by omega) (fun a' b' st2 l n h=>by
   obtain⟨rfl,rfl⟩:a=a'/\b=b':=by simpa using ht.symm.trans h
   rw[hcx];exact zxT hok) (fun a' b' h=>by
   obtain⟨rfl,rfl⟩:a=a'/\b=b':=by simpa using ht.symm.trans h
   rw[hcx];exact hok) _
theorem h_s9 (E:Env w0 pd ls ags rs cl G L Aa Ar na ca nr cr0 gk ok m ck b4 b6) (S:Sx ls ags rs cl G R Q m x l nx st qs bs tops l2 p2 s op) (W:Sw w0 b4 b6 L (.slice (some ⟨gk,ok,none⟩) m ck) (.slice Ar nr cr0) qv qs bs tops x.c x.p l2 p2 s op gv cv sv lst X) (hR:zcH G R=(RV,RE)) (hret:∀ a w,RP w0 b6 RV RE Q a w->Q0 .ret a w) (hcx:x.c=9):Code.wp Tryz.prog (rsq rbt) (Exit.inBlock 1 (Exit.then (fun a w=>WI w0 b4 b6 L (.slice (some ⟨gk,ok,none⟩) m ck) (.slice Ar nr cr0) cl ags ls rs R Q G m a w/\Wmu a<l) Q0)) ⟨lst.toArray,[]⟩ X:=by
 obtain⟨a,b,ht⟩:=zgV (show tops.length=2 by rw[S.tl,hcx];rfl)
 cases hok:(sm 9 a b).2 with
 |true=>exact zmQ E S W (by omega) (by omega) (fun a' b' st2 l n h=>by
   obtain⟨rfl,rfl⟩:a=a'/\b=b':=by simpa using ht.symm.trans h
   rw[hcx];exact zxY hok) (fun a' b' h=>by
   obtain⟨rfl,rfl⟩:a=a'/\b=b':=by simpa using ht.symm.trans h
   rw[hcx];exact hok) _ rfl
 |false=>exact zlE E S W hR hret (by omega) (by omega) (fun a' b' st2 l n h=>by
   obtain⟨rfl,rfl⟩:a=a'/\b=b':=by simpa using ht.symm.trans h
   rw[hcx];exact zxU hok) (fun a' b' h=>by
   obtain⟨rfl,rfl⟩:a=a'/\b=b':=by simpa using ht.symm.trans h
   rw[hcx];exact hok) _
theorem h_s10 (E:Env w0 pd ls ags rs cl G L Aa Ar na ca nr cr0 gk ok m ck b4 b6) (S:Sx ls ags rs cl G R Q m x l nx st qs bs tops l2 p2 s op) (W:Sw w0 b4 b6 L (.slice (some ⟨gk,ok,none⟩) m ck) (.slice Ar nr cr0) qv qs bs tops x.c x.p l2 p2 s op gv cv sv lst X) (hR:zcH G R=(RV,RE)) (hret:∀ a w,RP w0 b6 RV RE Q a w->Q0 .ret a w) (hcx:x.c=10):Code.wp Tryz.prog (rsq rbt) (Exit.inBlock 1 (Exit.then (fun a w=>WI w0 b4 b6 L (.slice (some ⟨gk,ok,none⟩) m ck) (.slice Ar nr cr0) cl ags ls rs R Q G m a w/\Wmu a<l) Q0)) ⟨lst.toArray,[]⟩ X:=by
 obtain⟨a,b,ht⟩:=zgV (show tops.length=2 by rw[S.tl,hcx];rfl)
 cases hok:(sm 10 a b).2 with
 |true=>exact zmQ E S W (by omega) (by omega) (fun a' b' st2 l n h=>by
   obtain⟨rfl,rfl⟩:a=a'/\b=b':=by simpa using ht.symm.trans h
   rw[hcx];exact zsO hok) (fun a' b' h=>by
   obtain⟨rfl,rfl⟩:a=a'/\b=b':=by simpa using ht.symm.trans h
   rw[hcx];exact hok) _ rfl
 |false=>exact zlE E S W hR hret (by omega) (by omega) (fun a' b' st2 l n h=>by
   obtain⟨rfl,rfl⟩:a=a'/\b=b':=by simpa using ht.symm.trans h
   rw[hcx];exact zsN hok) (fun a' b' h=>by
   obtain⟨rfl,rfl⟩:a=a'/\b=b':=by simpa using ht.symm.trans h
   rw[hcx];exact hok) _
theorem h_s11 (E:Env w0 pd ls ags rs cl G L Aa Ar na ca nr cr0 gk ok m ck b4 b6) (S:Sx ls ags rs cl G R Q m x l nx st qs bs tops l2 p2 s op) (W:Sw w0 b4 b6 L (.slice (some ⟨gk,ok,none⟩) m ck) (.slice Ar nr cr0) qv qs bs tops x.c x.p l2 p2 s op gv cv sv lst X) (hcx:x.c=11):Code.wp Tryz.prog (rsq rbt) (Exit.inBlock 1 (Exit.then (fun a w=>WI w0 b4 b6 L (.slice (some ⟨gk,ok,none⟩) m ck) (.slice Ar nr cr0) cl ags ls rs R Q G m a w/\Wmu a<l) Q0)) ⟨lst.toArray,[]⟩ X:=by
 obtain⟨a,b,ht⟩:=zgV (show tops.length=2 by rw[S.tl,hcx];rfl)
 have hok:(sm 11 a b).2=true:=rfl
 exact zmQ E S W (by omega) (by omega) (fun a' b' st2 l n h=>by
  obtain⟨rfl,rfl⟩:a=a'/\b=b':=by simpa using ht.symm.trans h
  rw[hcx];exact zsP hok) (fun a' b' h=>by
  obtain⟨rfl,rfl⟩:a=a'/\b=b':=by simpa using ht.symm.trans h
  rw[hcx];exact hok) _ rfl
theorem h_s12 (E:Env w0 pd ls ags rs cl G L Aa Ar na ca nr cr0 gk ok m ck b4 b6) (S:Sx ls ags rs cl G R Q m x l nx st qs bs tops l2 p2 s op) (W:Sw w0 b4 b6 L (.slice (some ⟨gk,ok,none⟩) m ck) (.slice Ar nr cr0) qv qs bs tops x.c x.p l2 p2 s op gv cv sv lst X) (hcx:x.c=12):Code.wp Tryz.prog (rsq rbt) (Exit.inBlock 1 (Exit.then (fun a w=>WI w0 b4 b6 L (.slice (some ⟨gk,ok,none⟩) m ck) (.slice Ar nr cr0) cl ags ls rs R Q G m a w/\Wmu a<l) Q0)) ⟨lst.toArray,[]⟩ X:=by
 obtain⟨a,b,ht⟩:=zgV (show tops.length=2 by rw[S.tl,hcx];rfl)
 have hok:(sm 12 a b).2=true:=rfl
 exact zmQ E S W (by omega) (by omega) (fun a' b' st2 l n h=>by
  obtain⟨rfl,rfl⟩:a=a'/\b=b':=by simpa using ht.symm.trans h
  rw[hcx];rfl) (fun a' b' h=>by
  obtain⟨rfl,rfl⟩:a=a'/\b=b':=by simpa using ht.symm.trans h
  rw[hcx];exact hok) _ rfl
theorem h_any (E:Env w0 pd ls ags rs cl G L Aa Ar na ca nr cr0 gk ok m ck b4 b6) (S:Sx ls ags rs cl G R Q m x l nx st qs bs tops l2 p2 s op) (W:Sw w0 b4 b6 L (.slice (some ⟨gk,ok,none⟩) m ck) (.slice Ar nr cr0) qv qs bs tops x.c x.p l2 p2 s op gv cv sv lst X) (hR:zcH G R=(RV,RE)) (hret:∀ a w,RP w0 b6 RV RE Q a w->Q0 .ret a w):Code.wp Tryz.prog (rsq rbt) (Exit.inBlock 1 (Exit.then (fun a w=>WI w0 b4 b6 L (.slice (some ⟨gk,ok,none⟩) m ck) (.slice Ar nr cr0) cl ags ls rs R Q G m a w/\Wmu a<l) Q0)) ⟨lst.toArray,[]⟩ X:=by
 have hc:=S.c28
 rcases (show x.c=0\/x.c=1\/x.c=2\/x.c=3\/x.c=4\/x.c=5\/x.c=6\/x.c=7\/x.c=8\/x.c=9\/x.c=10\/x.c=11\/x.c=12\/x.c=13\/x.c=14\/x.c=15\/(16<=x.c/\x.c<24)\/x.c=24\/x.c=25\/x.c=26\/x.c=27 by omega) with h|h|h|h|h|h|h|h|h|h|h|h|h|h|h|h|h|h|h|h|h
 ·exact h_0 E S W hR hret h _
 ·exact h_1 E S W hR hret h _
 ·exact h_2 E S W h _ rfl
 ·exact h_3 E S W h _ rfl
 ·exact h_4 E S W h _ rfl
 ·exact h_5 E S W h _ rfl
 ·exact h_s6 E S W hR hret h
 ·exact h_s7 E S W hR hret h
 ·exact h_s8 E S W hR hret h
 ·exact h_s9 E S W hR hret h
 ·exact h_s10 E S W hR hret h
 ·exact h_s11 E S W h
 ·exact h_s12 E S W h
 ·exact h_13 E S W h _ rfl
 ·exact h_14 E S W h _ rfl
 ·exact h_15 E S W h _ rfl
 ·exact h_told E S W h.1 h.2 _ rfl
 ·rw[<-zpA];exact h_24 E S W hR hret h _ rfl _ rfl
 ·rw[<-zpA];exact h_25 E S W hR hret h _ rfl _ rfl
 ·obtain⟨a,b,ht⟩:=zgV (show tops.length=2 by rw[S.tl,h];rfl)
  rw[<-zpA]
  by_cases hl:a<64
  ·exact h_26 E S W hR hret h (fun a' b' q=>by cases ht.symm.trans q;exact hl) _ rfl _ rfl
  ·exact h_26n E S W hR hret h (fun a' b' q=>by cases ht.symm.trans q;exact hl) _
 ·obtain⟨a,b,d,ht⟩:=len3H (show tops.length=3 by rw[S.tl,h];rfl)
  rw[<-zpA]
  by_cases hl:a<64
  ·exact h_27 E S W hR hret h (fun a' b' d' q=>by cases ht.symm.trans q;exact hl) _ rfl _ rfl
  ·exact h_27n E S W hR hret h (fun a' b' d' q=>by cases ht.symm.trans q;exact hl) _
end
section
variable {w0:World} {pd:List (BitVec 8)} {ls:List Ins} {ags:List Nat} {rs:List (Nat × Int)} {cl:Cl} {G:Nat} {L:List Value} {Aa Ar:Option Addr} {na ca nr cr0 gk ok m ck b4 b6:Nat} {R:Except Int (Nat × Nat)} {Q:List (List Value)} {RV:List Value} {RE:Int} {Q0:Exit->Act->World->Prop}
theorem r_any2 (E:Env w0 pd ls ags rs cl G L Aa Ar na ca nr cr0 gk ok m ck b4 b6) (hR:zcH G R=(RV,RE)) (f:Nat->Value) (sv qv:Value) (l nx p:Nat) (st:List Nat) (qs:List (List Value)) (w:World) (D:Dr w0 b4 b6 L w sv st.reverse qv qs) (hRd:Rd cl ags ls rs R Q G st l nx qs) (hp:p=zgT ls m nx) (hret:∀ a w,RP w0 b6 RV RE Q a w->Q0 .ret a w):Code.wp Tryz.prog zhF (Exit.then (fun a w=>WI w0 b4 b6 L (.slice (some ⟨gk,ok,none⟩) m ck) (.slice Ar nr cr0) cl ags ls rs R Q G m a w/\Wmu a<l) Q0) ⟨frh (.slice (some ⟨gk,ok,none⟩) m ck) (.slice Ar nr cr0) b4 b6 sv qv l p f,[]⟩ w:=by
 cases hx:ls[nx]? with
 |none=>exact r_end2 E hR f sv qv l nx p st qs w D hRd hp hx hret
 |some x=>
  by_cases hg:l<gT x.c
  ·exact r_gas2 E hR f sv qv l nx p st qs w D hRd hp x hx hg hret
  replace hg:gT x.c<=l:=by omega
  rw[<-rpre_eq]
  by_cases hf:st.length<tT x.c x.n\/64<st.length-tT x.c x.n+lT x.c x.n
  ·exact r_ref E f sv qv l nx p st qs x w D hRd hp hx hR hret hg hf _
  ·refine r_top E f sv qv l nx p st qs x w D hRd hp hx hg (by omega) (by omega) _ ?_
   intro lst X sv' bs tops l2 p2 s op gv cv S W
   exact h_any E S W hR hret
theorem r_loop2 (E:Env w0 pd ls ags rs cl G L Aa Ar na ca nr cr0 gk ok m ck b4 b6) (hR:zcH G R=(RV,RE)) (hret:∀ a w,RP w0 b6 RV RE Q a w->Q0 .ret a w) (a0:Act) (w1:World) (h0:WI w0 b4 b6 L (.slice (some ⟨gk,ok,none⟩) m ck) (.slice Ar nr cr0) cl ags ls rs R Q G m a0 w1):(Code.loop zhF).wp Tryz.prog Q0 a0 w1:=by
 refine wp_loop (fun a w=>WI w0 b4 b6 L (.slice (some ⟨gk,ok,none⟩) m ck) (.slice Ar nr cr0) cl ags ls rs R Q G m a w) (fun a _=>Wmu a) h0 ?_
 clear h0
 rintro a w ⟨lst,l,nx,st,sv,qv,qs,rfl,hl,h0,h2,h4,h6,h9,h10,h11,h12,D,hRd,hnx⟩
 have hmu:Wmu ⟨lst.toArray,[]⟩=l:=by
  unfold Wmu
  rw[show (⟨lst.toArray,[]⟩:Act).tmps.getD 11 undef=lst.getD 11 undef by simp [Array.getD_eq_getD_getElem?,List.getD_eq_getElem?_getD],h11]
  simp [intOf]
 show Code.wp Tryz.prog zhF (Exit.then (fun a w=>WI w0 b4 b6 L (.slice (some ⟨gk,ok,none⟩) m ck) (.slice Ar nr cr0) cl ags ls rs R Q G m a w/\Wmu a<Wmu ⟨lst.toArray,[]⟩) Q0) ⟨lst.toArray,[]⟩ w
 rw[hmu]
 clear hmu
 obtain⟨f,hf,e⟩:=zoK lst hl
 have e2:lst.toArray=frh (.slice (some ⟨gk,ok,none⟩) m ck) (.slice Ar nr cr0) b4 b6 sv qv l (zgT ls m nx) f:=by
  rw[e]
  unfold fra frh
  simp only[(hf 0).trans h0,(hf 2).trans h2,(hf 4).trans h4,(hf 6).trans h6,(hf 9).trans h9,(hf 10).trans h10,(hf 11).trans h11,(hf 12).trans h12]
 rw[e2]
 exact r_any2 E hR f sv qv l nx _ st qs w D hRd rfl hret
end
theorem pg_mem {d:List (BitVec 8)}:∀ {f p:Nat} {ls:List Ins},pg d f p=some ls->∀ x ∈ ls,x.p<d.length/\∃ s,ri (d.drop x.p)=some (x.c,x.a,x.n,s)
 |0,_,_,h=>by cases h
 |f+1,p,ls,h=>by
  by_cases hp:d.length<=p
  ·rw[zjL hp] at h
   obtain rfl:=Option.some.inj h
   intro x hx
   cases hx
  ·cases hri:ri (d.drop p) with
   |none=>rw[zfT (by omega) hri] at h;cases h
   |some y=>
    obtain⟨c,a,m,z⟩:=y
    rw[zfU (by omega) hri] at h
    cases hr:pg d f (p+z) with
    |none=>rw[hr] at h;cases h
    |some r=>
     rw[hr] at h
     simp only[Option.map_some,Option.some.injEq] at h
     subst h
     intro x hx
     rcases List.mem_cons.1 hx with rfl|hx
     ·exact⟨by show p<_;omega,z,hri⟩
     ·exact pg_mem hr x hx
theorem zuA {b:List (BitVec 8)} {c a n s:Nat} (h:ri b=some (c,a,n,s)):∃ x r,b=x :: r/\x.toNat=c/\ow (zaZ c) r<=r.length/\ro (zaZ c) (r.take (ow (zaZ c) r))=some (a,n):=by
 cases b with
 |nil=>cases h
 |cons x r=>
  unfold ri at h
  simp only at h
  split at h
  ·cases h
  ·split at h
   ·cases h
   ·split at h
    ·cases h
    ·rename_i h1 h2 _ _ _ h3
     simp only[Option.some.injEq,Prod.mk.injEq] at h
     obtain⟨rfl,rfl,rfl,rfl⟩:=h
     exact⟨x,r,rfl,rfl,by omega,h3⟩
theorem ri_jump {b:List (BitVec 8)} {c a n s:Nat} (h:ri b=some (c,a,n,s)) (h5:zaZ c=5):∃ x y z r,b=x :: y :: z :: r/\x.toNat=c/\n=y.toNat*256+z.toNat:=by
 obtain⟨x,r,rfl,hx,hl,ho⟩:=zuA h
 rw[h5] at hl ho
 have hw:ow 5 r=2:=rfl
 rw[hw] at hl ho
 match r,hl with
 |y :: z :: r,_=>
  refine⟨x,y,z,r,rfl,hx,?_⟩
  unfold ro at ho
  rw[if_neg (by decide)] at ho
  split at ho
  ·cases ho
  ·rw[if_neg (by decide),if_pos rfl] at ho
   simp only[Option.some.injEq,Prod.mk.injEq] at ho
   exact ho.2.symm
theorem oper5 (c:Nat) (hc:c<28):zaZ c=5 ↔ c=14\/c=15:=by
 have h:∀ c<28,zaZ c=5 ↔ c=14\/c=15:=by decide
 exact h c hc
def ec (d:List (BitVec 8)):Int:=if (chk d).isSome then 0 else 100
theorem ec_len {d:List (BitVec 8)} (h:d.length=0\/1024<d.length):ec d=100:=by
 unfold ec chk
 rw[if_pos h]
 rfl
theorem zxO {d:List (BitVec 8)} (h:chk d=none):ec d=100:=by unfold ec;rw[h];rfl
theorem zoH {d:List (BitVec 8)} {ls:List Ins} (h:chk d=some ls):ec d=0:=by unfold ec;rw[h];rfl
theorem ec_pg {d:List (BitVec 8)} {n:Nat} (hd:d.length=n) (h0:0<n) (h1:n<=1024) (h:pg d (n+1) 0=none):ec d=100:=by
 refine zxO ?_
 unfold chk
 rw[if_neg (by omega),hd,h]
theorem ec_led {d:List (BitVec 8)} {n:Nat} (hd:d.length=n) (h0:0<n) (h1:n<=1024) {ls:List Ins} (h:pg d (n+1) 0=some ls) (hl:zhD ls=true):ec d=0:=by
 refine zoH (ls:=ls) ?_
 unfold chk
 rw[if_neg (by omega),hd,h]
 exact if_pos hl
theorem ec_not {d:List (BitVec 8)} {n:Nat} (hd:d.length=n) (h0:0<n) (h1:n<=1024) {ls:List Ins} (h:pg d (n+1) 0=some ls) (hl:zhD ls=false):ec d=100:=by
 refine zxO ?_
 unfold chk
 rw[if_neg (by omega),hd,h]
 exact if_neg (by rw[hl];decide)
theorem any_p (ls:List Ins) (m:Nat):(ls.map (·.p)).any (·==m)=ls.any (fun j=>j.p==m):=by rw[List.any_map];rfl
theorem zlO (A:Option Addr) (n cap:Nat) (d:List (BitVec 8)) (hd:d.length=n) (h:n=0\/1024<n) (hm:n<9223372036854775808) (w:World):Calls Tryz.prog 10 #[.slice A n cap] w fun e w'=>e=.returned (.int .i64 (ec d))/\w'=w:=by
 have HE:Hid (ec d=100):=ec_len (by omega)
 clear hd
 rcases h with h|h
 ·subst h
  go_enter Tryz.func10,Tryz.ntmps10
  go_wp2
  go_ret
  exact⟨by rw[HE.out];rfl,rfl⟩
 ·have e1:¬ ((n:Int)<1):=by omega
  have e2:(1024:Int)<(n:Int):=by omega
  go_enter Tryz.func10,Tryz.ntmps10
  go_wp2
  go_ret
  exact⟨by rw[HE.out];rfl,rfl⟩
theorem znJ (g o n cap:Nat) (d:List (BitVec 8)) (hd:d.length=n) (h0:0<n) (h1:n<=1024) (w:World) (hr:w.rangeAt g o (vB d)):Calls Tryz.prog 10 #[.slice (some ⟨g,o,none⟩) n cap] w fun e w'=>e=.returned (.int .i64 (ec d))/\Below w.heap.size w w':=by
 have HR:Hid (w.rangeAt g o (vB d)):=hr
 have HDL:Hid (d.length=n):=hd
 have HP:Hid _:=zqT g o n cap d hd h1 w hr
 have e1:¬ ((n:Int)<1):=by omega
 have e2:¬ ((1024:Int)<(n:Int)):=by omega
 cases hpg:pg d (n+1) 0 with
 |none=>
  have HE:Hid (ec d=100):=ec_pg hd h0 h1 hpg
  have HQ:Hid (Calls Tryz.prog 29 #[.slice (some ⟨g,o,none⟩) n cap] w fun e w'=>e=.returned (.tuple #[.slice none 0 0,.bool false])/\Below w.heap.size w w'):=Calls.mono HP.out (fun e w' ⟨q,b⟩=>by
   rcases q with ⟨ls,v,q,_⟩|⟨_,q⟩
   ·rw[hpg] at q;cases q
   ·exact⟨q,b⟩)
  clear hr hd hpg HP
  go_enter Tryz.func10,Tryz.ntmps10
  go_wp2_with (go_at_call 29;refine Calls.mono HQ.out ?_;rintro e X ⟨rfl,q⟩;have B:Hid (Below w.heap.size w X):=q;clear q)
  go_ret
  exact⟨by rw[HE.out];rfl,B.out⟩
 |some ls=>
  have HM:Hid (∀ x ∈ ls,x.p<d.length/\∃ s,ri (d.drop x.p)=some (x.c,x.a,x.n,s)):=pg_mem hpg
  have HPG:Hid (pg d (n+1) 0=some ls):=hpg
  have HQ:Hid (Calls Tryz.prog 29 #[.slice (some ⟨g,o,none⟩) n cap] w fun e w'=>∃ v,e=.returned (.tuple #[v,.bool true])/\Lw w' 3 1 v ls.length (vI (ls.map (·.p)))/\ls.length<=n/\Below w.heap.size w w'):=Calls.mono HP.out (fun e w' ⟨q,b⟩=>by
   rcases q with ⟨ls',v,q,q1,q2,q3⟩|⟨q,_⟩
   ·rw[hpg] at q;obtain rfl:=Option.some.inj q;exact⟨v,q2,q3,q1,b⟩
   ·rw[hpg] at q;cases q)
  clear hr hd hpg HP
  go_enter Tryz.func10,Tryz.ntmps10
  go_upto_region 6 with (go_at_call 29;refine Calls.mono HQ.out ?_;rintro e X ⟨v,rfl,q1,q2,q3⟩;obtain⟨A,cp,rfl,_,_⟩:=Lw.form q1;have L:Hid (Lw X 3 1 (.slice A ls.length cp) ls.length (vI (ls.map (·.p)))):=q1;have hln:ls.length<=1024:=Nat.le_trans q2 h1;have B:Hid (Below w.heap.size w X):=q3;clear q1 q2 q3)
  obtain⟨N,hN⟩:∃ N,N=ls.length:=⟨_,rfl⟩
  have HN:Hid (N=ls.length):=hN
  rw[<-hN] at L hln ⊢
  clear hN
  go_wp2_with fail
  go_loopw [5] (fun v wr=>∃ t:Nat,t<=N/\v=.int .i64 (t:Int)/\Hid (Lw wr 3 1 (.slice A N cp) N (vI (ls.map (·.p))))/\Hid (Below w.heap.size w wr)/\Hid (zqP ls t=true)) (fun v _=>N-(intOf v).toNat)
  case atStart=>exact⟨0,Nat.zero_le _,rfl,L,B,by show _=_;unfold zqP;simp⟩
  case round=>
   clear L B
   obtain⟨t,ht,rfl,L,B,HT⟩:=hrel
   by_cases hlt:t<N
   ·obtain⟨x,hx⟩:∃ x,ls[t]?=some x:=⟨_,List.getElem?_eq_getElem (by rw[<-HN.out];exact hlt)⟩
    obtain⟨gl,cap',e,hcc⟩:=Lw.open L.out (by omega)
    simp only[Value.slice.injEq] at e
    obtain⟨rfl,_,rfl⟩:=e
    have hRL:=Lw.range L.out
    have cl:wr.cell? ⟨gl,t,none⟩=some (.int .i64 (x.p:Int)):=by
     have:=hRL t (.int .i64 (x.p:Int)) (by unfold vI;rw[List.getElem?_map,List.getElem?_map,hx];rfl)
     rwa [Nat.zero_add] at this
    obtain⟨hxp,s,hri⟩:=HM.out x (List.mem_of_getElem? hx)
    rw[HDL.out] at hxp
    obtain⟨b,r,hbr,hbc,_,_⟩:=zuA hri
    have hRB:=zaS HR.out B.out
    have c0:=zdC hbr hRB
    rw[hbc] at c0
    have hc28:x.c<28:=(zfW hri).1
    have HX:Hid (ls[t]?=some x):=hx
    by_cases h5:zaZ x.c=5
    ·obtain⟨b0,y,z,r0,hb0,_,hnn⟩:=ri_jump hri h5
     have c1:=zdC (zdO hb0) hRB
     have c2:=zdC (zdO (zdO hb0)) hRB
     have hl3:x.p+2<n:=by
      have:=congrArg List.length hb0
      rw[List.length_drop,HDL.out] at this
      simp at this
      omega
     have HTG:Hid _:=zgY g o n cap x.p y.toNat z.toNat hl3 h1 y.isLt z.isLt wr c1 c2
     rw[<-hnn] at HTG
     have HAM:Hid (∀ Y,Below wr.heap.size wr Y->Calls Tryz.prog 30 #[.slice (some ⟨gl,0,none⟩) N cp,.int .i64 (x.n:Int)] Y fun e w'=>e=.returned (.bool (ls.any (fun j=>j.p==x.n)))/\w'=Y):=fun Y hY=>by
      have:=zrJ gl cp (ls.map (·.p)) x.n (by rw[List.length_map,<-HN.out];exact hln) Y (zaS hRL hY)
      rw[List.length_map,any_p,<-HN.out] at this
      exact this
     obtain⟨p,hp⟩:∃ p,p=x.p:=⟨_,rfl⟩
     obtain⟨m,hm⟩:∃ m,m=x.n:=⟨_,rfl⟩
     obtain⟨c,hc⟩:∃ c,c=x.c:=⟨_,rfl⟩
     have h1415:=(oper5 x.c hc28).1 h5
     rw[<-hc] at c0 h1415
     rw[<-hp] at c0 cl hxp HTG
     rw[<-hm] at HTG HAM
     have HC:Hid (zaZ x.c=5):=h5
     have HMM:Hid (m=x.n):=hm
     clear hp hm hc hx hri hbr hbc hb0 hnn c1 c2 hRB hRL h5 hc28 hl3 hcc
     cases hany:ls.any (fun j=>j.p==m) with
     |true=>
      have HD:Hid (zqP ls (t+1)=true):=zgK HX.out HT.out (.inr (by rw[<-HMM.out];exact hany))
      rw[hany] at HAM
      clear hany
      rcases h1415 with h|h <;> subst h
      all_goals
       go_wp2_with (first
        |(go_at_call 19;refine Calls.mono HTG.out ?_;rintro e X1 ⟨rfl,q⟩;have BX:Hid (Below wr.heap.size wr X1):=q;clear q)
        |(go_at_call 30;refine Calls.mono (HAM.out X1 BX.out) ?_;rintro e X2 ⟨rfl,rfl⟩))
       exact⟨⟨t+1,hlt,by go_num,Lw.be L.out BX.out,B.out.trans (BX.out.mono B.out.size),HD⟩,by simp [intOf];omega⟩
     |false=>
      have HD:Hid (ec d=100):=ec_not HDL.out h0 h1 HPG.out (zlJ HX.out HC.out (by rw[<-HMM.out];exact hany))
      rw[hany] at HAM
      clear hany
      rcases h1415 with h|h <;> subst h
      all_goals
       go_wp2_with (first
        |(go_at_call 19;refine Calls.mono HTG.out ?_;rintro e X1 ⟨rfl,q⟩;have BX:Hid (Below wr.heap.size wr X1):=q;clear q)
        |(go_at_call 30;refine Calls.mono (HAM.out X1 BX.out) ?_;rintro e X2 ⟨rfl,rfl⟩))
       go_ret
       exact⟨by rw[HD.out];rfl,B.out.trans (BX.out.mono B.out.size)⟩
    ·have HD:Hid (zqP ls (t+1)=true):=zgK HX.out HT.out (.inl h5)
     have hno:¬ (x.c=14\/x.c=15):=fun q=>h5 ((oper5 x.c hc28).2 q)
     obtain⟨p,hp⟩:∃ p,p=x.p:=⟨_,rfl⟩
     obtain⟨c,hc⟩:∃ c,c=x.c:=⟨_,rfl⟩
     rw[<-hc] at c0 hno hc28
     rw[<-hp] at c0 cl hxp
     have e14:((c:Int)==14)=false:=by simp;omega
     have e15:((c:Int)==15)=false:=by simp;omega
     clear hp hc hx hri hbr hbc hRB hRL h5 hcc hno
     go_wp2
     exact⟨⟨t+1,hlt,by go_num,L,B,HD⟩,by simp [intOf];omega⟩
   ·have et:t=N:=by omega
    have HD:Hid (ec d=0):=ec_led HDL.out h0 h1 HPG.out (zoT (by rw[<-HN.out,<-et];exact HT.out))
    have e4:(t:Int)=(N:Int):=by omega
    rw[e4]
    clear e4 et ht hlt HT
    go_wp2
    go_ret
    exact⟨by rw[HD.out];rfl,B.out⟩
theorem ztU {pd:List (BitVec 8)} {m:Nat} {ls:List Ins} (hd:pd.length=m) (h:chk pd=some ls):zgT ls m 0=0:=by
 have:=(pg_at _ _ _ (chk_pg h).1 (Nat.zero_le _)).1
 rwa [hd] at this
theorem rrun_ok (pd:List (BitVec 8)) (m:Nat) (hpd:pd.length=m) (ls:List Ins) (hchk:chk pd=some ls) (c:Ca) (hc:c.Wf) (ags:List Nat) (rs:List (Nat × Int)) (gk ok:Nat) (Aa Ar:Option Addr) (ck ca cr0:Nat) (L:List Value) (hL:L=c.cs (.slice Aa ags.length ca)) (h1:0<=c.tok) (h2:c.tok<64) (h3:ags.length<=8) (h4:0<=c.tm) (h5:c.tm<=4611686018427387904) (h6:1<=c.gas) (h7:c.gas<=10000) (w:World) (hk:w.rangeAt gk ok (vB pd)) (ha:Sin w 4 Aa ags.length ca (fw ags)) (hr:Sin w 5 Ar rs.length cr0 (frs rs)) (hck:∀ X,Below w.heap.size w X->Calls Tryz.prog 10 #[.slice (some ⟨gk,ok,none⟩) m ck] X fun e w'=>e=.returned (.int .i64 0)/\Below X.heap.size X w') (hV:zpW (2 ^ 256) c.cl ags ls rs) (RV:List Value) (RE:Int) (Q:List (List Value)) (R:Except Int (Nat × Nat)) (hev:ev2 c.cl ags ls rs 10001 [] c.gas.toNat 0 0=(R,Q)) (hR:zcH c.gas.toNat R=(RV,RE)) (hRVl:RV.length=5) :
 Calls Tryz.prog 5 #[.slice (some ⟨gk,ok,none⟩) m ck,.agg L.toArray,.slice Ar rs.length cr0] w fun e w'=>∃ A7 c7,e=.returned (.tuple #[.agg RV.toArray,.int .i64 RE,.slice A7 Q.length c7])/\Lw w' tAk 30 (.slice A7 Q.length c7) Q.length Q.flatten/\Below w.heap.size w w':=by
 obtain⟨nr,hnr⟩:∃ n,n=rs.length:=⟨_,rfl⟩
 rw[<-hnr]
 rw[<-hnr] at hr
 have HPL:Hid (zgT ls m 0=0):=ztU hpd hchk
 have HG0:Hid (0<=c.gas):=Int.le_trans (by decide) h6
 have HCK:Hid _:=hck
 have HLL:Hid (L.length=48):=by show _=_;rw[hL];exact Ca.len hc _
 have HLI:Hid ((Tryz.prog.info? 30).map (·.size)=some L.length):=by show _=_;rw[HLL.out];exact zdR
 have HRI:Hid ((Tryz.prog.info? 35).map (·.size)=some RV.length):=by show _=_;rw[hRVl];exact zaP
 have hRd0:Rd c.cl ags ls rs R Q c.gas.toNat [] c.gas.toNat 0 []:=⟨⟨10001,Q,hev,rfl,by omega⟩,by simp;omega,Nat.le_refl _,fun a h=>by simp at h,by simp⟩
 have HRD:Hid _:=hRd0
 have HENV:Hid (∀ b4 b6,w.heap.size<=b4->w.heap.size<=b6->Env w pd ls ags rs c.cl c.gas.toNat L Aa Ar ags.length ca nr cr0 gk ok m ck b4 b6):=fun b4 b6 q4 q6=>⟨hpd,hchk,hk,ha,rfl,h3,hr,hnr,by rw[hL];exact Ca.inC hc _ h1 h2 h4 h5,by rw[hL];exact Ca.at45 hc _,by rw[hL,Int.toNat_of_nonneg (by omega)];exact Ca.at47 hc _,HLL.out,by show c.tok.toNat<64;omega,by show c.tm.toNat<=4611686018427387904;omega,hV,q4,q6,by omega⟩
 have HRR:Hid _:=hR
 clear hRd0 hev hR hV hr ha hk hnr hRVl hchk hpd
 have c40:L[40]?=some (.int .i64 c.tok):=by rw[hL];exact Ca.at40 hc _
 have c45:=Ca.at45 hc (.slice Aa ags.length ca)
 have c46:=Ca.at46 hc (.slice Aa ags.length ca)
 have c47:=Ca.at47 hc (.slice Aa ags.length ca)
 rw[<-hL] at c45 c46 c47
 obtain⟨na,hna⟩:∃ na,na=ags.length:=⟨_,rfl⟩
 rw[<-hna] at c45 h3
 have HC:Hid (∀ X,Row X w.heap.size L 30->X.cell? ⟨w.heap.size,40,none⟩=some (.int .i64 c.tok)/\X.cell? ⟨w.heap.size,45,none⟩=some (.slice Aa na ca)/\X.cell? ⟨w.heap.size,46,none⟩=some (.int .i64 c.tm)/\X.cell? ⟨w.heap.size,47,none⟩=some (.int .i64 c.gas)):=fun X r=>⟨r.cell 40 _ c40,r.cell 45 _ c45,r.cell 46 _ c46,r.cell 47 _ c47⟩
 clear hna hL c40 c45 c46 c47 hck hc
 obtain⟨tok,ht⟩:∃ t,t=c.tok:=⟨_,rfl⟩
 obtain⟨tm,htm⟩:∃ t,t=c.tm:=⟨_,rfl⟩
 obtain⟨gas,hgs⟩:∃ t,t=c.gas:=⟨_,rfl⟩
 rw[<-ht] at h1 h2 HC
 rw[<-htm] at h4 h5 HC
 rw[<-hgs] at h6 h7 HC
 have HGS:Hid (gas=c.gas):=hgs
 clear ht htm hgs
 have q1:¬ tok<0:=by omega
 have q2:¬ (64:Int)<=tok:=by omega
 have q3:¬ (8:Int)<(na:Int):=by omega
 have q4:¬ tm<0:=by omega
 have q5:¬ (4611686018427387904:Int)<tm:=by omega
 have q6:¬ gas<1:=by omega
 have q7:¬ (10000:Int)<gas:=by omega
 go_enter Tryz.func5,Tryz.ntmps5
 go_upto_region 1 with (first
  |(refine zaF 30 rfl (.tmp 1) rfl L rfl ?_;intro X1 (R1:Hid (Row X1 w.heap.size L 30)) (B1:Hid (Below w.heap.size w X1)) (S1:Hid (X1.heap.size=w.heap.size+1));simp only[Act.put,jA,jB,jC])
  |(refine zaT rfl rfl ?_;intro X2 (R2:Hid (Row X2 X1.heap.size zR 35)) (B2:Hid (Below X1.heap.size X1 X2)) (S2:Hid (X2.heap.size=X1.heap.size+1));simp only[Act.put,jA,jB,jC]))
 obtain⟨b6,hb6⟩:∃ b1,b1=X1.heap.size:=⟨_,rfl⟩
 rw[<-hb6]
 have R2':Hid (Row X2 b6 zR 35):=by show Row _ _ _ _;rw[hb6];exact R2.out
 have HB6:Hid (w.heap.size<=b6):=by show _<=_;rw[hb6];have:=S1.out;omega
 have HL2:Hid (Row X2 w.heap.size L 30):=R1.out.below B2.out (by have:=S1.out;omega)
 have BW:Hid (Below w.heap.size w X2):=Below.trans B1.out (B2.out.mono (by have:=S1.out;omega))
 go_upto_region 3 with (go_at_call 10;refine (HCK.out X2 (BW.out)).mono ?_;rintro e X3 ⟨rfl,q⟩;have B3:Hid (Below X2.heap.size X2 X3):=q;clear q)
 have HL3:Hid (Row X3 w.heap.size L 30):=HL2.out.below B3.out (by have:=S1.out;have:=S2.out;omega)
 obtain⟨g40,g45,g46,g47⟩:=HC.out X3 HL3.out
 go_wp2_with fail
 have BE:Hid (Below w.heap.size w X3):=BW.out.trans (B3.out.mono (by have:=S1.out;have:=S2.out;omega))
 have R63:Hid (Row X3 b6 zR 35):=R2'.out.below B3.out R2'.out.lt
 try rw[<-hb6]
 refine r_loop2 (R:=R) (Q:=Q) (RV:=RV) (RE:=RE) (HENV.out _ _ (Nat.le_refl _) HB6.out) HRR.out ?_ _ _ ?_
 ·rintro a w' ⟨lst,A7,c7,rfl,e6,e7,e8,r6,la,be⟩
  have e6':(lst.toArray).getD 6 undef=.pointer (some ⟨b6,0,none⟩):=by rw[<-e6];simp [Array.getD_eq_getD_getElem?,List.getD_eq_getElem?_getD]
  have e7':(lst.toArray).getD 7 undef=.int .i64 RE:=by rw[<-e7];simp [Array.getD_eq_getD_getElem?,List.getD_eq_getElem?_getD]
  have e8':(lst.toArray).getD 8 undef=.slice A7 Q.length c7:=by rw[<-e8];simp [Array.getD_eq_getD_getElem?,List.getD_eq_getElem?_getD]
  show bodyPost Tryz.prog Tryz.f5 (fun e w'=>∃ A7 c7,e=.returned (.tuple #[.agg RV.toArray,.int .i64 RE,.slice A7 Q.length c7])/\Lw w' tAk 30 (.slice A7 Q.length c7) Q.length Q.flatten/\Below w.heap.size w w') .ret ⟨lst.toArray,[]⟩ w'
  refine bodyPost_ret (a:=⟨lst.toArray,[]⟩) (zcE Tryz.results5 _ _ b6 35 RV (.int .i64 RE) (.slice A7 Q.length c7) e6' e7' e8' r6 Tryz.underlying35 HRI.out) rfl ?_
  exact⟨A7,c7,rfl,la,be⟩
 ·refine⟨_,c.gas.toNat,0,[],.slice none 0 0,.slice none 0 0,[],rfl,rfl,rfl,rfl,rfl,rfl,rfl,rfl,?_,?_,⟨BE.out,HL3.out,R63.out,Lw.nil _ _ _,fun g h=>(by cases h),Lw.nil _ _ _,fun g h=>(by cases h)⟩,HRD.out,Nat.zero_le _⟩
  ·show Value.int .i64 gas=_
   rw[Int.toNat_of_nonneg HG0.out,HGS.out]
  ·show Value.int .i64 0=_
   rw[HPL.out]
   rfl
theorem zzF (Ak:Option Addr) (m ck:Nat) (L:List Value) (vr:Value) (w:World) (HCK0:∀ X,Below w.heap.size w X->Calls Tryz.prog 10 #[.slice Ak m ck] X fun e w'=>e=.returned (.int .i64 100)/\Below X.heap.size X w') :
 Calls Tryz.prog 5 #[.slice Ak m ck,.agg L.toArray,vr] w fun e w'=>e=.returned (.tuple #[.agg zR.toArray,.int .i64 100,.slice none 0 0])/\Below w.heap.size w w':=by
 have HCK:Hid _:=HCK0
 clear HCK0
 go_enter Tryz.func5,Tryz.ntmps5
 go_upto_region 1 with (first
  |(refine zaF 30 rfl (.tmp 1) rfl L rfl ?_;intro X1 (R1:Hid (Row X1 w.heap.size L 30)) (B1:Hid (Below w.heap.size w X1)) (S1:Hid (X1.heap.size=w.heap.size+1));simp only[Act.put,jA,jB,jC])
  |(refine zaT rfl rfl ?_;intro X2 (R2:Hid (Row X2 X1.heap.size zR 35)) (B2:Hid (Below X1.heap.size X1 X2)) (S2:Hid (X2.heap.size=X1.heap.size+1));simp only[Act.put,jA,jB,jC]))
 obtain⟨b6,hb6⟩:∃ b1,b1=X1.heap.size:=⟨_,rfl⟩
 rw[<-hb6]
 have R2':Hid (Row X2 b6 zR 35):=by show Row _ _ _ _;rw[hb6];exact R2.out
 have HB6:Hid (w.heap.size<=b6):=by show _<=_;rw[hb6];have:=S1.out;omega
 have HL2:Hid (Row X2 w.heap.size L 30):=R1.out.below B2.out (by have:=S1.out;omega)
 have BW:Hid (Below w.heap.size w X2):=Below.trans B1.out (B2.out.mono (by have:=S1.out;omega))
 go_upto_region 2 with (go_at_call 10;refine (HCK.out X2 (BW.out)).mono ?_;rintro e X3 ⟨rfl,q⟩;have B3:Hid (Below X2.heap.size X2 X3):=q;clear q)
 have HL3:Hid (Row X3 w.heap.size L 30):=HL2.out.below B3.out (by have:=S1.out;have:=S2.out;omega)
 have BE:Hid (Below w.heap.size w X3):=BW.out.trans (B3.out.mono (by have:=S1.out;have:=S2.out;omega))
 have R63:Hid (Row X3 b6 zR 35):=R2'.out.below B3.out R2'.out.lt
 try rw[<-hb6]
 clear R1 B1 S1 R2 B2 S2 hb6 R2' HL2 BW B3 HCK
 go_wp2_with (refine zaD rfl 35 (.tmp 6) (.tmp 30) rfl b6 zR zR 35 rfl rfl R63.out rfl zaP zcW ?_;intro X9 (EZ:Hid (X9=X3.setCells b6 0 zR)) (RZ:Hid (Row X9 b6 zR 35));simp only[Act.put])
 refine bodyPost_ret (zcE Tryz.results5 _ _ b6 35 zR (.int .i64 100) (.slice none 0 0) rfl rfl rfl RZ.out Tryz.underlying35 zaP) rfl ?_
 exact⟨rfl,by rw[EZ.out];exact zaC BE.out HB6.out zR⟩
theorem zzG (Ak:Option Addr) (m ck:Nat) (L:List Value) (vr:Value) (tok tm gas:Int) (na:Nat) (Aa:Option Addr) (ca:Nat) (w:World) (HC0:∀ X,Row X w.heap.size L 30->X.cell? ⟨w.heap.size,40,none⟩=some (.int .i64 tok)/\X.cell? ⟨w.heap.size,45,none⟩=some (.slice Aa na ca)/\X.cell? ⟨w.heap.size,46,none⟩=some (.int .i64 tm)/\X.cell? ⟨w.heap.size,47,none⟩=some (.int .i64 gas)) (HCK0:∀ X,Below w.heap.size w X->Calls Tryz.prog 10 #[.slice Ak m ck] X fun e w'=>e=.returned (.int .i64 0)/\Below X.heap.size X w') (hcs:(tok<0)\/(¬ tok<0/\(64:Int)<=tok)\/(¬ tok<0/\¬ (64:Int)<=tok/\(8:Int)<(na:Int))\/(¬ tok<0/\¬ (64:Int)<=tok/\¬ (8:Int)<(na:Int)/\tm<0)\/(¬ tok<0/\¬ (64:Int)<=tok/\¬ (8:Int)<(na:Int)/\¬ tm<0/\(4611686018427387904:Int)<tm)\/(¬ tok<0/\¬ (64:Int)<=tok/\¬ (8:Int)<(na:Int)/\¬ tm<0/\¬ (4611686018427387904:Int)<tm/\gas<1)\/(¬ tok<0/\¬ (64:Int)<=tok/\¬ (8:Int)<(na:Int)/\¬ tm<0/\¬ (4611686018427387904:Int)<tm/\¬ gas<1/\(10000:Int)<gas)) :
 Calls Tryz.prog 5 #[.slice Ak m ck,.agg L.toArray,vr] w fun e w'=>e=.returned (.tuple #[.agg zR.toArray,.int .i64 101,.slice none 0 0])/\Below w.heap.size w w':=by
 have HCK:Hid _:=HCK0
 have HC:Hid _:=HC0
 clear HCK0 HC0
 rcases hcs with h0|⟨h0,h1⟩|⟨h0,h1,h2⟩|⟨h0,h1,h2,h3⟩|⟨h0,h1,h2,h3,h4⟩|⟨h0,h1,h2,h3,h4,h5⟩|⟨h0,h1,h2,h3,h4,h5,h6⟩
 all_goals
  go_enter Tryz.func5,Tryz.ntmps5
  go_upto_region 1 with (first
   |(refine zaF 30 rfl (.tmp 1) rfl L rfl ?_;intro X1 (R1:Hid (Row X1 w.heap.size L 30)) (B1:Hid (Below w.heap.size w X1)) (S1:Hid (X1.heap.size=w.heap.size+1));simp only[Act.put,jA,jB,jC])
   |(refine zaT rfl rfl ?_;intro X2 (R2:Hid (Row X2 X1.heap.size zR 35)) (B2:Hid (Below X1.heap.size X1 X2)) (S2:Hid (X2.heap.size=X1.heap.size+1));simp only[Act.put,jA,jB,jC]))
  obtain⟨b6,hb6⟩:∃ b1,b1=X1.heap.size:=⟨_,rfl⟩
  rw[<-hb6]
  have R2':Hid (Row X2 b6 zR 35):=by show Row _ _ _ _;rw[hb6];exact R2.out
  have HB6:Hid (w.heap.size<=b6):=by show _<=_;rw[hb6];have:=S1.out;omega
  have HL2:Hid (Row X2 w.heap.size L 30):=R1.out.below B2.out (by have:=S1.out;omega)
  have BW:Hid (Below w.heap.size w X2):=Below.trans B1.out (B2.out.mono (by have:=S1.out;omega))
  go_upto_region 3 with (go_at_call 10;refine (HCK.out X2 (BW.out)).mono ?_;rintro e X3 ⟨rfl,q⟩;have B3:Hid (Below X2.heap.size X2 X3):=q;clear q)
  have HL3:Hid (Row X3 w.heap.size L 30):=HL2.out.below B3.out (by have:=S1.out;have:=S2.out;omega)
  have BE:Hid (Below w.heap.size w X3):=BW.out.trans (B3.out.mono (by have:=S1.out;have:=S2.out;omega))
  have R63:Hid (Row X3 b6 zR 35):=R2'.out.below B3.out R2'.out.lt
  try rw[<-hb6]
  clear R1 B1 S1 R2 B2 S2 hb6 R2' HL2 BW B3 HCK
  obtain⟨g40,g45,g46,g47⟩:=HC.out X3 HL3.out
  clear HC HL3
  go_wp2_with (refine zaD rfl 35 (.tmp 6) (.tmp 65) rfl b6 zR zR 35 rfl rfl R63.out rfl zaP zcW ?_;intro X9 (EZ:Hid (X9=X3.setCells b6 0 zR)) (RZ:Hid (Row X9 b6 zR 35));simp only[Act.put])
  refine bodyPost_ret (zcE Tryz.results5 _ _ b6 35 zR (.int .i64 101) (.slice none 0 0) rfl rfl rfl RZ.out Tryz.underlying35 zaP) rfl ?_
  exact⟨rfl,by rw[EZ.out];exact zaC BE.out HB6.out zR⟩
theorem zjN (A:Option Addr) (n cap:Nat) (d:List (BitVec 8)) (hd:d.length=n) (hm:n<9223372036854775808) (w:World) (hs:Sin w 1 A n cap (vB d)):Calls Tryz.prog 10 #[.slice A n cap] w fun e w'=>e=.returned (.int .i64 (ec d))/\Below w.heap.size w w':=by
 by_cases h:n=0\/1024<n
 ·exact Calls.mono (zlO A n cap d hd h hm w) (fun e w' ⟨q,b⟩=>⟨q,by rw[b];exact Below.refl _ _⟩)
 ·rcases hs with ⟨q,_⟩|⟨g,o,rfl,_,hr⟩
  ·exact absurd (.inl q) h
  ·exact znJ g o n cap d hd (by omega) (by omega) w hr
theorem zoZ (pd:List (BitVec 8)) (m:Nat) (hpd:pd.length=m) (c:Ca) (hc:c.Wf) (ags:List Nat) (rs:List (Nat × Int)) (hag:∀ a ∈ ags,a<2 ^ 256) (hrs:∀ p ∈ rs,p.1<2 ^ 256) (Ak Aa Ar:Option Addr) (ck ca cr0:Nat) (L:List Value) (hL:L=c.cs (.slice Aa ags.length ca)) (RV:List Value) (RE:Int) (Q:List (List Value)) (hmr:zkW pd c ags rs=((RV,RE),Q)) (w:World)
 (hk:Sin w 1 Ak m ck (vB pd)) (hkm:m<9223372036854775808) (ha:Sin w 4 Aa ags.length ca (fw ags)) (hr:Sin w 5 Ar rs.length cr0 (frs rs)) :
 Calls Tryz.prog 5 #[.slice Ak m ck,.agg L.toArray,.slice Ar rs.length cr0] w fun e w'=>∃ A7 c7,e=.returned (.tuple #[.agg RV.toArray,.int .i64 RE,.slice A7 Q.length c7])/\Lw w' tAk 30 (.slice A7 Q.length c7) Q.length Q.flatten/\Below w.heap.size w w':=by
 have hckX:∀ X,Below w.heap.size w X->Calls Tryz.prog 10 #[.slice Ak m ck] X fun e w'=>e=.returned (.int .i64 (ec pd))/\Below X.heap.size X w':=fun X k=>zjN Ak m ck pd hpd hkm X (hk.be k)
 unfold zkW at hmr
 cases hck:chk pd with
 |none=>
  rw[hck] at hmr
  simp only[Prod.mk.injEq] at hmr
  obtain⟨⟨rfl,rfl⟩,rfl⟩:=hmr
  rw[zxO hck] at hckX
  refine Calls.mono (zzF Ak m ck L _ w hckX) ?_
  rintro e w' ⟨rfl,q⟩
  exact⟨none,0,rfl,Lw.nil _ _ _,q⟩
 |some ls=>
  rw[hck] at hmr
  simp only at hmr
  rw[zoH hck] at hckX
  split at hmr
  ·rename_i hmay
   obtain⟨h1,h2⟩:=Prod.mk.inj hmr
   have hok:=zlB hck
   have hbig:4611686018427387905<2 ^ 256:=Nat.lt_of_lt_of_le (by decide:4611686018427387905<2 ^ 63) (Nat.pow_le_pow_right (by decide) (by decide))
   have hV:zpW (2 ^ 256) c.cl ags ls rs:=⟨Nat.lt_trans (by decide) hbig,fun h1 h2 h3=>(zrM h1 h2 h3).1,hag,by omega,ztM,(by show c.tok.toNat<_;exact Nat.lt_trans (by omega:c.tok.toNat<4611686018427387905) hbig),hc.amt,(by show c.tm.toNat<_;exact Nat.lt_trans (by omega:c.tm.toNat<4611686018427387905) hbig),hok.2.2.2.1,hrs,hok.2.2.2.2.1⟩
   obtain⟨gk,ok,hA,hkr⟩:∃ gk ok,Ak=some ⟨gk,ok,none⟩/\w.rangeAt gk ok (vB pd):=by
    rcases hk with ⟨q,_⟩|⟨g,o,e,_,r⟩
    ·have:=hok.2.2.2.2.2.1;omega
    ·exact⟨g,o,e,r⟩
   subst hA
   have hRl:RV.length=5:=by
    have:=(zgN c.gas.toNat (ev2 c.cl ags ls rs 10001 [] c.gas.toNat 0 0).1).1
    rw[h1] at this
    exact this
   exact rrun_ok pd m hpd ls hck c hc ags rs gk ok Aa Ar ck ca cr0 L hL hmay.1 hmay.2.1 hmay.2.2.1 hmay.2.2.2.1 hmay.2.2.2.2.1 hmay.2.2.2.2.2.1 hmay.2.2.2.2.2.2 w hkr ha hr hckX hV RV RE Q (ev2 c.cl ags ls rs 10001 [] c.gas.toNat 0 0).1 (Prod.ext rfl h2) h1 hRl
  ·rename_i hmay
   simp only[Prod.mk.injEq] at hmr
   obtain⟨⟨rfl,rfl⟩,rfl⟩:=hmr
   have HC:∀ X,Row X w.heap.size L 30->X.cell? ⟨w.heap.size,40,none⟩=some (.int .i64 c.tok)/\X.cell? ⟨w.heap.size,45,none⟩=some (.slice Aa ags.length ca)/\X.cell? ⟨w.heap.size,46,none⟩=some (.int .i64 c.tm)/\X.cell? ⟨w.heap.size,47,none⟩=some (.int .i64 c.gas):=fun X r=>by
    rw[hL] at r
    exact⟨r.cell 40 _ (Ca.at40 hc _),r.cell 45 _ (Ca.at45 hc _),r.cell 46 _ (Ca.at46 hc _),r.cell 47 _ (Ca.at47 hc _)⟩
   have fin:Calls Tryz.prog 5 #[.slice Ak m ck,.agg L.toArray,.slice Ar rs.length cr0] w fun e w'=>e=.returned (.tuple #[.agg zR.toArray,.int .i64 101,.slice none 0 0])/\Below w.heap.size w w':=by
    exact zzG Ak m ck L _ c.tok c.tm c.gas ags.length Aa ca w HC hckX (by omega)
   refine Calls.mono fin ?_
   rintro e w' ⟨rfl,q⟩
   exact⟨none,0,rfl,Lw.nil _ _ _,q⟩
end Go.Proofs.YtedeobikfddmgaaGreat
