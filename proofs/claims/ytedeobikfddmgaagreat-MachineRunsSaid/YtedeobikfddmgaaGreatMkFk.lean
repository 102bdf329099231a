import Derived.Test.YtedeobikfddmgaaGreatMkFi
import Derived.Test.YtedeobikfddmgaaGreatMkDc
set_option maxRecDepth 100000
set_option maxHeartbeats 16000000
namespace Go.Proofs.YtedeobikfddmgaaGreat
open Go Go.RowKit
open Sha
open Wd
def Ask1 (q:List Value):Prop:=∃ k a b t ad,ad.length=20/\q=aq k a b t (vB ad)
theorem znX:zR=wq 0++[.int .i64 0]:=by rw[ziW];rfl
theorem zqU (G:Nat) (R:Except Int (Nat × Nat)):∃ m g,(zcH G R).1=wq m++[.int .i64 g]:=by
 cases R with
 |error E=>exact⟨0,0,znX⟩
 |ok y=>exact⟨y.1,_,rfl⟩
theorem vB_drop (l:List (BitVec 8)) (n:Nat):(vB l).drop n=vB (l.drop n):=by unfold vB;rw[List.map_drop]
theorem adr_vB (x:Nat):adr x=vB ((wB x).drop 12):=by unfold adr;rw[<-wB_vU,vB_drop]
theorem z20_vB:z20=vB (List.replicate 20 0#8):=rfl
theorem zxQ (rs:List (Nat × Int)) (c:Nat) (st:List Nat) (nx nq:Nat):∀ q ∈ (exh rs c st nx nq).2,Ask1 q:=by
 have hz:∀ k a b t,Ask1 (aq k a b t z20):=fun k a b t=>⟨k,a,b,t,List.replicate 20 0#8,by simp,by rw[z20_vB]⟩
 have ha:∀ k a b t x,Ask1 (aq k a b t (adr x)):=fun k a b t x=>⟨k,a,b,t,(wB x).drop 12,by rw[List.length_drop,wB_len],by rw[adr_vB]⟩
 have one:∀ {a:List Value},Ask1 a->∀ q ∈ [a],Ask1 q:=fun h q hq=>by obtain rfl:=List.mem_singleton.1 hq;exact h
 unfold exh
 split
 ·exact one (hz _ _ _ _)
 split
 ·exact one (hz _ _ _ _)
 split
 ·split
  ·exact one (ha _ _ _ _ _)
  ·exact fun q hq=>by cases hq
 split
 ·exact one (ha _ _ _ _ _)
 ·exact fun q hq=>by cases hq
theorem zzQ (cl:Cl) (ags:List Nat) (ls:List Ins) (rs:List (Nat × Int)) (x:Ins) (st:List Nat) (l nx nq:Nat):∀ q ∈ (stU cl ags ls rs x st l nx nq).2,Ask1 q:=by
 unfold stU
 split
 ·exact fun q hq=>by cases hq
 split
 ·exact fun q hq=>by cases hq
 split
 ·exact fun q hq=>by cases hq
 split
 ·exact fun q hq=>by cases hq
 exact zxQ _ _ _ _ _
theorem zxP (cl:Cl) (ags:List Nat) (ls:List Ins) (rs:List (Nat × Int)):∀ (f:Nat) (st:List Nat) (l nx nq:Nat),∀ q ∈ (ev2 cl ags ls rs f st l nx nq).2,Ask1 q:=by
 intro f
 induction f with
 |zero=>exact fun st l nx nq q hq=>by cases hq
 |succ f ih=>
  intro st l nx nq q hq
  unfold ev2 at hq
  cases hx:ls[nx]? with
  |none=>rw[hx] at hq;cases hq
  |some x=>
   rw[hx] at hq
   simp only at hq
   have h1:=zzQ cl ags ls rs x st l nx nq
   rcases hst:stU cl ags ls rs x st l nx nq with ⟨r1,q1⟩
   rw[hst] at hq h1
   cases r1 with
   |error E=>exact h1 q hq
   |ok y=>
    obtain⟨st',nx'⟩:=y
    simp only at hq
    split at hq
    ·exact h1 q hq
    ·rcases List.mem_append.1 hq with hq|hq
     ·exact h1 q hq
     ·exact ih _ _ _ _ q hq
theorem zgL (pd:List (BitVec 8)) (c:Ca) (ags:List Nat) (rs:List (Nat × Int)):(∀ q ∈ (zkW pd c ags rs).2,Ask1 q)/\∃ m g,(zkW pd c ags rs).1.1=wq m++[.int .i64 g]:=by
 unfold zkW
 cases chk pd with
 |none=>exact⟨fun q hq=>(by cases hq),0,0,znX⟩
 |some ls=>
  simp only
  split
  ·exact⟨zxP _ _ _ _ _ _ _ _ _,zqU _ _⟩
  ·exact⟨fun q hq=>(by cases hq),0,0,znX⟩
def Qin (w:World) (A:Option Addr) (Q:List (List Value)):Prop:=Q=[]\/∃ g,A=some ⟨g,0,none⟩/\w.rangeAt g 0 Q.flatten
section
variable {Q:Exit->Act->World->Prop} {o:Oper} {a:Act} {w:World} {K:Act->World->Prop}
end
abbrev Rz (rv0 rv1 rv2 rv3 rv4:Int):List Value:=[.int .u64 rv0,.int .u64 rv1,.int .u64 rv2,.int .u64 rv3,.int .i64 rv4]
section
variable {o:Oper} {a:Act} {w:World} {K:Act->World->Prop} {Q:Exit->Act->World->Prop}
end
def Sin (w:World) (s:Nat) (A:Option Addr) (n c:Nat) (xs:List Value):Prop:=(n=0/\xs=[]/\(A=none->c=0))\/∃ g o,A=some ⟨g,o,none⟩/\xs.length=n*s/\w.rangeAt g o xs
theorem Sin.be {w X:World} {s n c:Nat} {A:Option Addr} {xs:List Value} (h:Sin w s A n c xs) (k:Below w.heap.size w X):Sin X s A n c xs:=by
 rcases h with h|⟨g,o,h1,h2,h3⟩
 ·exact .inl h
 ·exact .inr ⟨g,o,h1,h2,zaS h3 k⟩
theorem zvG (d:List (BitVec 8)):∀ u ∈ vB d,u.oneCell'=true:=fun u hu=>by
 obtain⟨x,_,rfl⟩:=List.mem_map.1 hu
 rfl
theorem zpB (w:World) (t e:TypeId) (sz bt:Nat) (hu:Tryz.prog.underlying t=some (.slice e)) (hi:∃ ie z,Tryz.prog.info? e=some ie/\ie.zero=some z/\ie.size=sz/\ie.bytes=bt/\z.cells.size=sz) (h0:0<sz) (ty:TypeId) (g:Nat) (r:Row w g [] e) (A:Option Addr) (n c:Nat) (xs:List Value) (hx:Sin w sz A n c xs) (hk:n<=maxLen) (hb:n*bt<=140737488355328) :
 ∃ g' c' w',(Builtin.append_ #[t,t] ty #[.slice (some ⟨g,0,none⟩) 0 0,.slice A n c]).run Tryz.prog w=.ok (.slice (some ⟨g',0,none⟩) n c') w'/\Lw w' e sz (.slice (some ⟨g',0,none⟩) n c') n xs/\n<=c'/\Below w.heap.size w w'/\(g'=g\/w.heap.size<=g'):=by
 obtain⟨ie,z,i1,i2,i3,i5,i4⟩:=hi
 have zero:∀ (A:Option Addr) (c:Nat),(A=none->c=0)->(Builtin.append_ #[t,t] ty #[.slice (some ⟨g,0,none⟩) 0 0,.slice A 0 c]).run Tryz.prog w=.ok (.slice (some ⟨g,0,none⟩) 0 0) w:=fun A c hc=>by
  cases A with
  |none=>
   obtain rfl:=hc rfl
   exact run_append_owned_none (P:=Tryz.prog) (w:=w) 0 t ty e ie sz hu i1 (.slice (some ⟨g,0,none⟩) 0 0) 0 [] (zlQ sz r)
  |some a=>
   have hs:∀ W,(sizeOf e).run Tryz.prog W=.ok ie.size W:=fun W=>by simp [sizeOf,typeInfo,i1]
   simp [Builtin.append_,run_underlying hu,hs,Builtin.lenOf,Builtin.firstCells,storeCells,loadCells,loadCellsFrom]
 rcases hx with ⟨rfl,rfl,hc⟩|⟨g2,o2,rfl,hl,hr⟩
 ·exact⟨g,0,w,zero A c hc,zlQ sz r,Nat.le_refl _,Below.refl _ _,.inl rfl⟩
 ·by_cases hn:n=0
  ·subst hn
   obtain rfl:xs=[]:=List.eq_nil_of_length_eq_zero (by rw[hl,Nat.zero_mul])
   exact⟨g,0,w,zero _ c (fun h=>by cases h),zlQ sz r,Nat.le_refl _,Below.refl _ _,.inl rfl⟩
  ·obtain⟨v',w',hrun,r1,r2⟩:=run_append_arg_grows (P:=Tryz.prog) w t ty e ie z sz bt hu i1 i2 i3 i5 i4 h0 ⟨g,0,none⟩ 0 0 [] (by simp) (fun j u hj=>by cases hj) ⟨g2,o2,none⟩ n c xs hl (fun j u hj=>by rw[Addr.add_mid];exact hr j u hj) (by omega) (by omega) (by rw[Nat.zero_add];exact hb)
   rw[Nat.zero_add,List.nil_append] at r1
   obtain⟨q1,q2⟩:=r1
   rcases q2 with ⟨_,q3⟩|⟨g',cap',cur,q3,q0,q4,q5,q6,q7,q8⟩
   ·exact absurd q3 hn
   ·subst q3
    exact⟨g',cap',w',hrun,⟨q1,.inr ⟨g',cap',cur,rfl,Nat.zero_le _,q4,q5,q6,q7,q8⟩⟩,q5,(Below.refl _ _).grown r2 (Nat.le_refl _) (fun k e=>by cases e),.inr q0⟩
section
variable {ops:Array Oper} {rest:List Oper} {op:Oper} {o:Oper} {a:Act} {w:World} {K:Act->World->Prop} {Q:Exit->Act->World->Prop}
theorem znV (t e:TypeId) (sz bt:Nat) (hu:Tryz.prog.underlying t=some (.slice e)) (hi:∃ ie z,Tryz.prog.info? e=some ie/\ie.zero=some z/\ie.size=sz/\ie.bytes=bt/\z.cells.size=sz) (h0:0<sz) (s x:Operand) (ho:o.op=.call { callee:=.builtin .append,args:=#[s,x],argTypes:=#[t,t] }) (g:Nat) (hs:a.eval s=.slice (some ⟨g,0,none⟩) 0 0) (r:Row w g [] e) (A:Option Addr) (n c:Nat) (xs:List Value) (hx:a.eval x=.slice A n c) (hX:Sin w sz A n c xs) (_h1:∀ v ∈ xs,v.oneCell'=true) (hk:n<=maxLen) (hb:n*bt<=140737488355328)
 (h:∀ g' c' w',Lw w' e sz (.slice (some ⟨g',0,none⟩) n c') n xs->n<=c'->Below w.heap.size w w'->K (a.put o.dst (.slice (some ⟨g',0,none⟩) n c')) w'):Oper.wp Tryz.prog o a w K Q:=by
 obtain⟨g',c',w',hr,q1,q2,q3,_⟩:=zpB w t e sz bt hu hi h0 o.type g r A n c xs hX hk hb
 unfold Oper.wp execOp
 simp only[ho,resolve,invoke,builtin,Sem.run_bind,Sem.run_pure,Result.andThen_ok,List.map_toArray,List.map_cons,List.map_nil,hs,hx,hr]
 exact h g' c' w' q1 q2 q3
theorem zcY (t e:TypeId) (sz bt:Nat) (hu:Tryz.prog.underlying t=some (.slice e)) (hi:∃ ie z,Tryz.prog.info? e=some ie/\ie.zero=some z/\ie.size=sz/\ie.bytes=bt/\z.cells.size=sz) (h0:0<sz) (hgd:op.guard=none) (s x:Operand) (ho:op.op=.call { callee:=.builtin .append,args:=#[s,x],argTypes:=#[t,t] }) (g:Nat) (hs:a.eval s=.slice (some ⟨g,0,none⟩) 0 0) (r:Row w g [] e) (A:Option Addr) (n c:Nat) (xs:List Value) (hx:a.eval x=.slice A n c) (hX:Sin w sz A n c xs) (hk:n<=maxLen) (hb:n*bt<=140737488355328)
 (h:∀ g' c' w',Lw w' e sz (.slice (some ⟨g',0,none⟩) n c') n xs->n<=c'->Below w.heap.size w w'->(g'=g\/w.heap.size<=g')->wpList Tryz.prog ops Q rest (a.put op.dst (.slice (some ⟨g',0,none⟩) n c')) w'):wpList Tryz.prog ops Q (op :: rest) a w:=by
 obtain⟨g',c',w',hr,q1,q2,q3,q4⟩:=zpB w t e sz bt hu hi h0 op.type g r A n c xs hX hk hb
 refine wpList_plain hgd fun K hK=>?_
 unfold Oper.wp execOp
 simp only[ho,resolve,invoke,builtin,Sem.run_bind,Sem.run_pure,Result.andThen_ok,List.map_toArray,List.map_cons,List.map_nil,hs,hx,hr]
 exact hK _ _ (h g' c' w' q1 q2 q3 q4)
end
theorem kh_nn {W Y:World} {b:Nat} {cs:List Value} {hb:Nat} (k:Gro (·=b) W Y) (r:Row W b cs 35) (hlb:hb<b):Kh hb W Y:=⟨fun bb cs t ht rr=>k.row rr (fun e=>by
 have hne:t≠35:=by rcases ht with h|h|h|h <;> rw[h] <;> decide
 exact zaN rr r hne e),fun bb h1 h2=>k.block bb h2 (fun e=>by omega)⟩
end Go.Proofs.YtedeobikfddmgaaGreat
