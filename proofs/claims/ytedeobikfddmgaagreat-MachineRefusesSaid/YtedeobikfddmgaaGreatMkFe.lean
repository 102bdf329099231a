import Derived.Test.YtedeobikfddmgaaGreatMkAA
import Derived.Test.YtedeobikfddmgaaGreatTFp
import Derived.Test.YtedeobikfddmgaaGreatMkX
import Derived.BigQuiet
import Derived.Test.YtedeobikfddmgaaGreatMkEo
import Derived.Test.YtedeobikfddmgaaGreatMkEp
set_option maxRecDepth 100000
set_option maxHeartbeats 16000000
namespace Go.Proofs.YtedeobikfddmgaaGreat
open Go Go.RowKit
theorem zjD {P:Program} {id:Nat} {ops:Array Oper} {Q:Exit->Act->World->Prop} {a:Act} {w:World} (hm:P.follows .mixedOrders=true) (j:Nat) (hjn:j<ops.size)
 (hb:((List.range ops.size).all fun i=>((ops[i]?).map fun o=>o.after.all fun e=>!Region.binds .any e || decide (e.on<i)).getD true)=true)
 (I J:Array Bool->Act->World->Prop)
 (h0:I (Array.replicate ops.size false) a w.drew)
 (hI:∀ listed a w i,listed.size=ops.size->I listed a w->Down ops listed->i ∈ Region.ready .any ops listed->i≠j->¬ listed.getD j false=true->wpOp P ops Q i (I (listed.setIfInBounds i true)) a w)
 (hj:∀ listed a w,listed.size=ops.size->I listed a w->Down ops listed->j ∈ Region.ready .any ops listed->wpOp P ops Q j (J (listed.setIfInBounds j true)) a w)
 (hJ:∀ listed a w i,listed.size=ops.size->J listed a w->Down ops listed->i ∈ Region.ready .any ops listed->i≠j->listed.getD j false=true->wpOp P ops Q i (J (listed.setIfInBounds i true)) a w)
 (hdone:∀ listed a w,listed.size=ops.size->J listed a w->Region.ready .any ops listed=[]->Q .normal a w):(Code.region id ops true).wp P Q a w:=by
 refine zbV hm (fun l a w=>l.size=ops.size/\((¬ l.getD j false=true/\I l a w)\/(l.getD j false=true/\J l a w))) ⟨by simp,.inl ⟨fun h=>zbK h,h0⟩⟩ ?_ ?_
 ·intro l a w i h hd hi
  obtain⟨hs,h|h⟩:=h
  ·by_cases e:i=j
   ·subst e
    exact wpOp_mono (fun _ _ h'=>⟨by rw[Array.size_setIfInBounds];exact hs,.inr ⟨zbC (by rw[hs];exact hjn),h'⟩⟩) (hj l a w hs h.2 hd hi)
   ·exact wpOp_mono (fun _ _ h'=>⟨by rw[Array.size_setIfInBounds];exact hs,.inl ⟨by rw[zaA _ _ _ e];exact h.1,h'⟩⟩) (hI l a w i hs h.2 hd hi e h.1)
  ·by_cases e:i=j
   ·subst e
    exact absurd h.1 (zbD hi)
   ·exact wpOp_mono (fun _ _ h'=>⟨by rw[Array.size_setIfInBounds];exact hs,.inr ⟨by rw[zaA _ _ _ e];exact h.1,h'⟩⟩) (hJ l a w i hs h.2 hd hi e h.1)
 ·intro l a w h hr
  obtain⟨hs,h|h⟩:=h
  ·exact absurd (zcL hb hs hr j hjn) h.1
  ·exact hdone l a w hs h.2 hr
open Sha Wd
abbrev tHo:TypeId:=48
abbrev tAk:TypeId:=59
abbrev znN:TypeId:=37
abbrev tYr:TypeId:=64
abbrev tYs:TypeId:=31
def ry (p:Nat × Int):List Value:=wq p.1++[.int .i64 p.2]
def frs (rs:List (Nat × Int)):List Value:=rs.flatMap ry
theorem zdS (p:Nat × Int):(ry p).length=5:=by unfold ry;rw[List.length_append,zaV];rfl
theorem zsS (rs:List (Nat × Int)) (i:Nat) (x:Nat × Int) (h:rs[i]?=some x) (j:Nat) (hj:j<5):(frs rs)[i*5+j]?=(ry x)[j]?:=by
 induction rs generalizing i with
 |nil=>cases h
 |cons y r ih=>
  have e:frs (y :: r)=ry y++frs r:=rfl
  rw[e]
  cases i with
  |zero=>
   obtain rfl:y=x:=by simpa using h
   rw[List.getElem?_append_left (by rw[zdS];omega),Nat.zero_mul,Nat.zero_add]
  |succ k=>
   rw[List.getElem?_append_right (by rw[zdS];omega),zdS,show (k+1)*5+j-5=k*5+j by omega]
   exact ih k (by simpa using h)
def Rpl (hb:Nat) (w:World) (v:Value) (rs:List (Nat × Int)):Prop:=(rs=[]/\∃ A c,v=.slice A 0 c)\/∃ (g o c:Nat),v=.slice (some ⟨g,o,none⟩) rs.length c/\g<hb/\w.rangeAt g o (frs rs)
theorem zoD {w:World} {g o:Nat} {u:Value} (h:w.cell? ⟨g,o,none⟩=some u):g<w.heap.size:=by
 rcases Nat.lt_or_ge g w.heap.size with q|q
 ·exact q
 ·have:w.heap[g]?=none:=Array.getElem?_eq_none q
  simp [World.cell?,this] at h
theorem zqB {w w':World} {g:Nat} (e:w'.heap[g]?=w.heap[g]?) (o:Nat):w'.cell? ⟨g,o,none⟩=w.cell? ⟨g,o,none⟩:=by
 simp only[World.cell?,e]
def Inr (w:World) (v:Value) (d:List (BitVec 8)):Prop:=(d=[]/\∃ A c,v=.slice A 0 c)\/∃ (g c:Nat) (cs:List Value),v=.slice (some ⟨g,0,none⟩) d.length c/\d.length<=c/\Row w g cs 5/\∀ (j:Nat) (u:Value),(vB d)[j]?=some u->cs[j]?=some u
structure Hst (w:World) (hb:Nat) (rv qv iv:Value) (rs:List (Nat × Int)) (qs:List (List Value)) (inn:List (BitVec 8)):Prop where
 row:Row w hb [rv,qv,iv] tHo
 rp:Rpl hb w rv rs
 own:Lw w tAk 30 qv qs.length qs.flatten
 inr:Inr w iv inn
 ah:∀ g,qv.ownBlock=some g->hb<=g
def Kh (hb:Nat) (w w':World):Prop:=(∀ (b:Nat) (cs:List Value) (t:TypeId),(t=tHo\/t=tAk\/t=tYr\/t=5)->Row w b cs t->Row w' b cs t)/\∀ b,b<hb->b<w.heap.size->w'.heap[b]?=w.heap[b]?
theorem Lw.rows {w w':World} {e:TypeId} {s n:Nat} {v:Value} {xs:List Value} (h:Lw w e s v n xs) (k:∀ b cs,Row w b cs e->Row w' b cs e):Lw w' e s v n xs:=by
 refine Lw.block h fun g hg=>?_
 obtain⟨_,h2⟩:=h
 rcases h2 with ⟨h2,_⟩|⟨g',cap,cur,hv,_,hh,_⟩
 ·rw[h2] at hg;cases hg
 ·rw[hv] at hg
  obtain rfl:g'=g:=by simpa [Value.ownBlock] using hg
  have rr:Row w g' cur.toList e:=by unfold Row;simpa using hh
  exact (k _ _ rr).trans rr.symm
theorem Rpl.rows {w w':World} {v:Value} {rs:List (Nat × Int)} {hb:Nat} (h:Rpl hb w v rs) (k:∀ b,b<hb->b<w.heap.size->w'.heap[b]?=w.heap[b]?):Rpl hb w' v rs:=by
 rcases h with h|⟨g,o,c,h1,h2,h3⟩
 ·exact .inl h
 ·refine .inr ⟨g,o,c,h1,h2,fun j u hj=>?_⟩
  have hc:=h3 j u hj
  exact (zqB (k g h2 (zoD hc)) _).trans hc
theorem Inr.rows {w w':World} {v:Value} {d:List (BitVec 8)} (h:Inr w v d) (k:∀ b cs,Row w b cs 5->Row w' b cs 5):Inr w' v d:=by
 rcases h with h|⟨g,c,cs,h1,h0,h2,h3⟩
 ·exact .inl h
 ·exact .inr ⟨g,c,cs,h1,h0,k _ _ h2,h3⟩
section
variable {w w':World} {hb:Nat} {rv qv iv:Value} {rs:List (Nat × Int)} {qs:List (List Value)} {inn:List (BitVec 8)}
theorem Hst.kh (h:Hst w hb rv qv iv rs qs inn) (k:Kh hb w w'):Hst w' hb rv qv iv rs qs inn:=
 ⟨k.1 _ _ _ (.inl rfl) h.row,h.rp.rows k.2,Lw.rows h.own fun b cs r=>k.1 b cs _ (.inr (.inl rfl)) r,h.inr.rows fun b cs r=>k.1 b cs _ (.inr (.inr (.inr rfl))) r,h.ah⟩
theorem Kh.of_below (k:Below w.heap.size w w'):Kh hb w w':=⟨fun _ _ _ _ r=>Row.below r k r.lt,fun b _ h=>k.block b h⟩
theorem Hst.below (h:Hst w hb rv qv iv rs qs inn) (k:Below w.heap.size w w'):Hst w' hb rv qv iv rs qs inn:=h.kh (Kh.of_below k)
end
theorem zbB (b:Nat):∀ (vs:List Value) (o:Nat) (a w:World),Gro (·=b) a w->Gro (·=b) a (w.setCells b o vs)
 |[],_,_,_,h=>h
 |v :: r,o,a,_,h=>zbB b r (o+1) a _ (h.set b o v rfl)
theorem zjW {R:Nat->Prop} {a b:World} (h:Gro R a b):Gro R a b.drew:=⟨h.os,h.tape,h.output,h.size,h.block⟩
def Hq (hb:Nat) (qv:Value) (g:Nat):Prop:=g=hb\/qv.ownBlock=some g
theorem all_Ak:∃ ie z,Tryz.prog.info? tAk=some ie/\ie.zero=some z/\ie.size=30/\ie.bytes=104/\z.cells.size=30:=by
 have h:(Tryz.prog.info? tAk).map (fun i=>(i.size,i.bytes,i.zero.map (·.cells.size)))=some (30,104,some 30):=by kernel_rfl
 cases hi:Tryz.prog.info? tAk with
 |none=>rw[hi] at h;cases h
 |some ie=>
  rw[hi] at h
  simp only[Option.map_some,Option.some.injEq,Prod.mk.injEq] at h
  obtain⟨h1,h2,h3⟩:=h
  cases hz:ie.zero with
  |none=>rw[hz] at h3;cases h3
  |some z=>rw[hz] at h3;exact⟨ie,z,rfl,hz,h1,h2,by simpa using h3⟩
theorem sz_Aks:(Tryz.prog.info? znN).map (·.size)=some 1:=by kernel_rfl
theorem ztC:(Tryz.prog.info? tAk).map (·.size)=some 30:=by kernel_rfl
theorem info_Yr:(Tryz.prog.info? tYr).map (·.size)=some 5:=by kernel_rfl
abbrev zY:List Value:=[.int .u64 0,.int .u64 0,.int .u64 0,.int .u64 0,.int .i64 0]
def SP.nAk (R:List Value):SP:=⟨fun W v=>∃ M,v=.slice (some ⟨M,0,none⟩) 1 1/\Row W M R tAk,fun _ _ _ hB h=>by obtain⟨M,e,r⟩:=h;exact⟨M,e,Row.below r hB r.lt⟩⟩
section
variable {Q:Exit->Act->World->Prop} {o:Oper} {a:Act} {w:World} {K:Act->World->Prop}
theorem wpH_bAk (x:Operand) (ho:o.op=.buildSlice znN 1 #[(0,x)]) (L:List Value) (hL:L.length=30) (hx:a.eval x=.agg L.toArray)
 (h:∀ X,Row X w.heap.size L tAk->Below w.heap.size w X->K (a.put o.dst (.slice (some ⟨w.heap.size,0,none⟩) 1 1)) X):Oper.wp Tryz.prog o a w K Q:=by
 obtain⟨ie,z,h1,h2,h3,_,h4⟩:=all_Ak
 refine wp_buildSlice znN tAk 1 _ ho L.toArray ie z Tryz.underlying37 h1 h2 (by rw[h3];omega) (by rw[h3];omega) ?_ (h _ (Row.new' rfl rfl) ((Below.refl _ _).alloc (Nat.le_refl _) _))
 rw[show (Array.map (fun (p:Nat × Operand)=>match p with|(i,x)=>(i,a.eval x)) #[(0,x)]).toList=[(0,a.eval x)] by simp,hx,h3]
 exact zoI 30 (by decide) _ _ (by simp [hL]) (by simp)
theorem ziP {x:Operand} (ho:o.op=.nilCheck x) (B:Nat) (hx:a.eval x=.pointer (some ⟨B,0,none⟩)) (h:K (a.put o.dst (.pointer (some ⟨B,0,none⟩))) w):Oper.wp Tryz.prog o a w K Q:=by
 unfold Oper.wp execOp
 simp only[ho,hx]
 go_simp
 exact h
theorem wpH_f0 {x:Operand} (ho:o.op=.fieldAddr tHo x 0) (B:Nat) (hx:a.eval x=.pointer (some ⟨B,0,none⟩)) (h:K (a.put o.dst (.pointer (some ⟨B,0,none⟩))) w):Oper.wp Tryz.prog o a w K Q:=by
 unfold Oper.wp execOp
 simp only[ho,hx]
 go_simp
 exact h
theorem zpR {x:Operand} (ho:o.op=.fieldAddr tHo x 1) (B:Nat) (hx:a.eval x=.pointer (some ⟨B,0,none⟩)) (h:K (a.put o.dst (.pointer (some ⟨B,1,none⟩))) w):Oper.wp Tryz.prog o a w K Q:=by
 unfold Oper.wp execOp
 simp only[ho,hx]
 go_simp
 exact h
theorem zvK {ty:TypeId} {x:Operand} (b f:Nat) (v:Value) (ho:o.op=.load ty x) (hx:a.eval x=.pointer (some ⟨b,f,none⟩)) (hr:(loadVar ty ⟨b,f,none⟩).run Tryz.prog w=.ok v w) (h:K (a.put o.dst v) w):Oper.wp Tryz.prog o a w K Q:=by
 unfold Oper.wp execOp
 simp only[ho,hx,Instr.loadAt,Instr.sureAddr,Sem.run_bind,Sem.run_pure,Result.andThen_ok,hr,Oper.upon_value]
 exact h
theorem wpH_len {x:Operand} {A:Option Addr} {n c:Nat} (t e:TypeId) (ht:Tryz.prog.underlying t=some (.slice e)) (ho:o.op=.call { callee:=.builtin .len,args:=#[x],argTypes:=#[t] }) (hx:a.eval x=.slice A n c) (h:K (a.put o.dst (.int .i64 ((n:Nat):Int))) w):Oper.wp Tryz.prog o a w K Q:=by
 have hr:(Builtin.len_ #[t] o.type #[.slice A n c]).run Tryz.prog w=.ok (goInt n) w:=by
  simp [Builtin.len_,run_underlying ht]
 unfold Oper.wp
 simp [execOp,ho,resolve,invoke,builtin,hx,hr,Result.andThen]
 exact h
theorem wpH_sub {x y:Operand} {t yt:TypeId} (ho:o.op=.binOp .sub t x y yt) (ht:t=3) (u z r:Int) (hx:a.eval x=.int .i64 u) (hy:a.eval y=.int .i64 z) (hr:IntKind.i64.wrap (u-z)=r) (h:K (a.put o.dst (.int .i64 r)) w):Oper.wp Tryz.prog o a w K Q:=by
 subst ht
 unfold Oper.wp execOp
 simp only[ho,hx,hy]
 simp [go_sem,hr]
 exact h
theorem wpH_ix {x y:Operand} (ho:o.op=.indexAddr tYs x y) (g p n c i:Nat) (hx:a.eval x=.slice (some ⟨g,p,none⟩) n c) (hy:a.eval y=.int .i64 (i:Int)) (hi:i<n) (h:K (a.put o.dst (.pointer (some ⟨g,p+i*5,none⟩))) w):Oper.wp Tryz.prog o a w K Q:=by
 have h1:¬ ((i:Int)<0):=by omega
 have h2:(i:Int)<(n:Int):=by omega
 unfold Oper.wp execOp
 simp only[ho,hx,hy]
 go_simp
 exact h
theorem zrC (ho:o.op=.alloc tYr) (h:K (a.put o.dst (.pointer (some ⟨w.heap.size,0,none⟩))) (w.alloc (Obj.cells zY.toArray tYr))):Oper.wp Tryz.prog o a w K Q:=by
 unfold Oper.wp execOp
 simp only[ho]
 go_simp
 exact h
theorem yaI (ty:TypeId) (x y:Operand) (ho:o.op=.store ty x y)
 (b i:Nat) (v:Value) (cs:List Value) (t:TypeId) (hx:a.eval x=.pointer (some ⟨b,i,none⟩)) (hy:a.eval y=v) (hcs:v.cells=#[v]) (r:Row w b cs t) (hl:i<cs.length) (hi:(Tryz.prog.info? ty).map (·.size)=some 1) (h1:v.oneCell'=true)
 (h:∀ X,Row X b (cs.set i v) t->Gro (·=b) w X->K (a.put o.dst undef) X):Oper.wp Tryz.prog o a w K Q:=by
 have ht:=r.there i 1 (by omega)
 have hr:(storeVar ty ⟨b,i,none⟩ v).run Tryz.prog w=.ok () (w.setCell ⟨b,i,none⟩ v):=by
  have:=run_storeCells_cells (P:=Tryz.prog) b i [v] 0 w (fun j hj=>by simpa using (ht j (by simpa using hj)).1) (fun j hj=>by simpa using (ht j (by simpa using hj)).2) (fun u hu=>by simp at hu;rw[hu];exact h1)
  cases hq:Tryz.prog.info? ty with
  |none=>simp [hq] at hi
  |some ie=>
   have hs:ie.size=1:=by simpa [hq] using hi
   simp only[Nat.add_zero,World.setCells] at this
   simp [storeVar,sizeOf,typeInfo,hq,hcs,hs,this]
 unfold Oper.wp execOp
 simp only[ho,hx,hy,Instr.storeAt,Instr.sureAddr,Sem.run_bind,Sem.run_pure,Result.andThen_ok,hr]
 exact h _ (r.set i v) ((Gro.refl _ _).set b i v rfl)
end
theorem ldH_As (w:World) (b f:Nat) (v:Value) (h:w.cell? ⟨b,f,none⟩=some v):(loadVar znN ⟨b,f,none⟩).run Tryz.prog w=.ok v w:=by
 simp [loadVar,isAgg,run_underlying Tryz.underlying37,h]
theorem ldH_Ys (w:World) (b f:Nat) (v:Value) (h:w.cell? ⟨b,f,none⟩=some v):(loadVar tYs ⟨b,f,none⟩).run Tryz.prog w=.ok v w:=by
 simp [loadVar,isAgg,run_underlying Tryz.underlying31,h]
theorem zyW (hb:Nat) (rv qv iv:Value) (rs:List (Nat × Int)) (qs:List (List Value)) (q:List Value) (hq:q.length=30) (hqo:∀ v ∈ q,v.oneCell'=true) (hn:qs.length<=1000) (w:World) (H:Hst w hb rv qv iv rs qs []):Calls Tryz.prog 132 #[.pointer (some ⟨hb,0,none⟩),.agg q.toArray] w fun e w'=>∃ qv',e=.returned (.tuple #[.agg (wq (rs.getD qs.length (0,0)).1).toArray,.int .i64 (rs.getD qs.length (0,0)).2])/\Hst w' hb rv qv' iv rs (qs++[q]) []/\Gro (Hq hb qv) w w'/\(∀ g,qv'.ownBlock=some g->qv.ownBlock=some g\/w.heap.size<=g):=by
 obtain⟨n,hn0⟩:∃ n,n=qs.length:=⟨_,rfl⟩
 have HH0:=H
 obtain⟨Aq,cq,hqv,_,_⟩:=Lw.form H.own
 rw[<-hn0] at hqv hn
 subst hqv
 have HHO:Hid (Hst w hb rv (.slice Aq n cq) iv rs qs []):=H
 have HHW:Hid (hb<w.heap.size):=H.row.lt
 have HL8:Hid (q.length=30):=hq
 have HIA:Hid ((Tryz.prog.info? tAk).map (·.size)=some q.length):=by show _=_;rw[hq];exact ztC
 have HO8:Hid (∀ v ∈ q,v.oneCell'=true):=hqo
 have HNB:Hid (n<=1000000):=by show _<=_;omega
 have HNL:Hid (n=qs.length):=hn0
 have HN1:Hid (n<=1000):=hn
 have HOW:Hid (∀ W,Hst W hb rv (.slice Aq n cq) iv rs qs []->Lw W tAk 30 (.slice Aq n cq) n qs.flatten):=fun W hh=>by rw[hn0];rw[hn0] at hh;exact hh.own
 rw[<-hn0]
 obtain⟨LV,hLV⟩:∃ L,L=wq (rs.getD n (0,0)).1:=⟨_,rfl⟩
 obtain⟨E,hE⟩:∃ E,E=(rs.getD n (0,0)).2:=⟨_,rfl⟩
 have HLV:Hid (LV=wq (rs.getD n (0,0)).1/\E=(rs.getD n (0,0)).2):=⟨hLV,hE⟩
 rw[<-hLV,<-hE]
 clear H HH0 hq hqo hn0 hn hLV hE
 go_enter Tryz.func132,Tryz.ntmps132
 go_upto_region 1 with (first
  |(refine zaF tAk rfl (.tmp 1) rfl q rfl ?_;intro V0 (R1:Hid (Row V0 w.heap.size q tAk)) (B1:Hid (Below w.heap.size w V0)) q3;clear q3;simp only[Act.put,jA,jB,jC])
  |(refine zaK rfl rfl ?_;intro V1 (R4:Hid (Row V1 V0.heap.size zW 27)) (B2:Hid (Below V0.heap.size V0 V1)) q3;clear q3;simp only[Act.put,jA,jB,jC]))
 obtain⟨bB,hbB⟩:∃ b,b=w.heap.size:=⟨_,rfl⟩
 obtain⟨b4,hb4⟩:∃ b,b=V0.heap.size:=⟨_,rfl⟩
 have B3:Below w.heap.size w V1:=B1.out.trans (B2.out.mono B1.out.size)
 have rB:=Row.below R1.out B2.out R1.out.lt
 have r4:=R4.out
 rw[<-hbB] at rB ⊢
 rw[<-hb4] at r4 ⊢
 have HB4:Hid (w.heap.size<=b4):=by show _<=_;rw[hb4];exact B1.out.size
 have hb1:=Below.refl V1.heap.size V1
 have hHo:=HHO.out.below B3
 have hFr:Gro (Hq hb (.slice Aq n cq)) w V1:=Gro.of_below B3
 clear R1 R4 B1 B2 B3 hbB hb4
 refine zeB fun a0 ha0=>?_
 have hsz:a0.tmps.size=63:=by rw[ha0];rfl
 have zs0:a0.eval (.tmp 0)=.pointer (some ⟨hb,0,none⟩):=by rw[ha0];rfl
 have zs3:a0.eval (.tmp 3)=.pointer (some ⟨bB,0,none⟩):=by rw[ha0];rfl
 obtain⟨D,hD⟩:∃ D:List (Tmp × SP),D=[(8,SP.is (.pointer (some ⟨hb,0,none⟩))),(9,SP.is (.pointer (some ⟨hb,0,none⟩))),(10,SP.is (.pointer (some ⟨hb,0,none⟩))),(11,SP.is (.pointer (some ⟨hb,1,none⟩))),(12,SP.is (.slice Aq n cq)),(13,SP.is (.agg q.toArray)),(14,SP.any),(15,SP.any),(16,SP.is (.pointer (some ⟨hb,0,none⟩))),(17,SP.is (.pointer (some ⟨hb,1,none⟩))),(1000,SP.any)]:=⟨_,rfl⟩
 refine zjD (by kernel_rfl) 7 (by decide) (by kernel_rfl) (fun listed ac W=>Fp D a0 listed ac W/\Below V1.heap.size V1 W/\Row W bB q tAk/\Row W b4 zW 27/\Hst W hb rv (.slice Aq n cq) iv rs qs []/\Gro (Hq hb (.slice Aq n cq)) w W/\(listed.getD 6 false=true->(SP.nAk q).P W (ac.eval (.tmp 14)))) (fun listed ac W=>∃ A7 c7,Fp D a0 listed ac W/\ac.eval (.tmp 15)=.slice A7 (n+1) c7/\Row W hb [rv,if listed.getD 10 false=true then .slice A7 (n+1) c7 else .slice Aq n cq,iv] tHo/\Lw W tAk 30 (.slice A7 (n+1) c7) (n+1) (qs.flatten++q)/\Gro (Hq hb (.slice Aq n cq)) w W/\(∀ g,(Value.slice A7 (n+1) c7).ownBlock=some g->(Value.slice Aq n cq).ownBlock=some g\/w.heap.size<=g)/\Row W b4 zW 27) ?_ ?_ ?_ ?_ ?_
 ·exact⟨Fp.start D a0 _ _,Below.drew hb1,Row.drew rB,Row.drew r4,hHo.below (Below.drew (Below.refl _ _)),hFr.below (Below.drew (Below.refl _ _)),(fun h=>(zbK h).elim)⟩
 ·clear ha0 hb1 rB r4 hHo hFr
  intro listed ac W k hl hI hdn hk hne hnl
  replace hl:listed.size=11:=hl
  obtain⟨hF,hb1,rB,r4,hHo,hFr,ti6⟩:=hI
  have hk1:k<11:=List.mem_range.1 (List.mem_filter.1 hk).1
  rcases (show k=0\/k=1\/k=2\/k=3\/k=4\/k=5\/k=6\/k=7\/k=8\/k=9\/k=10 by omega) with rfl|rfl|rfl|rfl|rfl|rfl|rfl|rfl|rfl|rfl|rfl
  ·have hk3:=hk
   exact zaE rfl rfl (zbJ (ac.eval (.tmp 0)) rfl rfl ⟨(hF.put 0 8 (SP.is (.pointer (some ⟨hb,0,none⟩))) (ac.eval (.tmp 0)) (by rw[hD];rfl) (((hF.keep 0 (by rw[hD];rfl)).trans zs0)) (by rw[hD];rfl) (by rw[hsz];decide) (by rw[hl];decide)),hb1,rB,r4,hHo,hFr,(fun h1=>by change (SP.nAk q).P _ ((ac.put (some 8) _).eval (.tmp 14));rw[zaB ac _ (by decide)];exact ti6 (by rwa [zaA _ _ _ (by decide)] at h1))⟩)
  ·have hk3:=hk
   exact zaE rfl rfl (zbJ (ac.eval (.tmp 0)) rfl rfl ⟨(hF.put 1 9 (SP.is (.pointer (some ⟨hb,0,none⟩))) (ac.eval (.tmp 0)) (by rw[hD];rfl) (((hF.keep 0 (by rw[hD];rfl)).trans zs0)) (by rw[hD];rfl) (by rw[hsz];decide) (by rw[hl];decide)),hb1,rB,r4,hHo,hFr,(fun h1=>by change (SP.nAk q).P _ ((ac.put (some 9) _).eval (.tmp 14));rw[zaB ac _ (by decide)];exact ti6 (by rwa [zaA _ _ _ (by decide)] at h1))⟩)
  ·have hk3:=hk
   have e0:=(hF.done 1 (9,SP.is (.pointer (some ⟨hb,0,none⟩))) (by rw[hD];rfl) (zaI hk 1 (by kernel_rfl)))
   exact zaE rfl rfl (ziP rfl hb e0 ⟨(hF.put 2 10 (SP.is (.pointer (some ⟨hb,0,none⟩))) (.pointer (some ⟨hb,0,none⟩)) (by rw[hD];rfl) rfl (by rw[hD];rfl) (by rw[hsz];decide) (by rw[hl];decide)),hb1,rB,r4,hHo,hFr,(fun h1=>by change (SP.nAk q).P _ ((ac.put (some 10) _).eval (.tmp 14));rw[zaB ac _ (by decide)];exact ti6 (by rwa [zaA _ _ _ (by decide)] at h1))⟩)
  ·have hk3:=hk
   have e0:=(hF.done 2 (10,SP.is (.pointer (some ⟨hb,0,none⟩))) (by rw[hD];rfl) (zaI hk 2 (by kernel_rfl)))
   exact zaE rfl rfl (zpR rfl hb e0 ⟨(hF.put 3 11 (SP.is (.pointer (some ⟨hb,1,none⟩))) (.pointer (some ⟨hb,1,none⟩)) (by rw[hD];rfl) rfl (by rw[hD];rfl) (by rw[hsz];decide) (by rw[hl];decide)),hb1,rB,r4,hHo,hFr,(fun h1=>by change (SP.nAk q).P _ ((ac.put (some 11) _).eval (.tmp 14));rw[zaB ac _ (by decide)];exact ti6 (by rwa [zaA _ _ _ (by decide)] at h1))⟩)
  ·have hk3:=hk
   have e0:=(hF.done 3 (11,SP.is (.pointer (some ⟨hb,1,none⟩))) (by rw[hD];rfl) (zaI hk 3 (by kernel_rfl)))
   exact zaE rfl rfl (zvK hb 1 (.slice Aq n cq) rfl e0 (ldH_As W hb 1 _ (hHo.row.cell 1 _ rfl)) ⟨(hF.put 4 12 (SP.is (.slice Aq n cq)) (.slice Aq n cq) (by rw[hD];rfl) rfl (by rw[hD];rfl) (by rw[hsz];decide) (by rw[hl];decide)),hb1,rB,r4,hHo,hFr,(fun h1=>by change (SP.nAk q).P _ ((ac.put (some 12) _).eval (.tmp 14));rw[zaB ac _ (by decide)];exact ti6 (by rwa [zaA _ _ _ (by decide)] at h1))⟩)
  ·have hk3:=hk
   have e0:=((hF.keep 3 (by rw[hD];rfl)).trans zs3)
   exact zaE rfl rfl (wp_load_mid tAk (.tmp 3) rfl bB 0 e0 q _ rB.all Tryz.underlying59 rfl HIA.out ⟨(hF.put 5 13 (SP.is (.agg q.toArray)) (.agg q.toArray) (by rw[hD];rfl) rfl (by rw[hD];rfl) (by rw[hsz];decide) (by rw[hl];decide)),hb1,rB,r4,hHo,hFr,(fun h1=>by change (SP.nAk q).P _ ((ac.put (some 13) _).eval (.tmp 14));rw[zaB ac _ (by decide)];exact ti6 (by rwa [zaA _ _ _ (by decide)] at h1))⟩)
  ·have hk3:=hk
   have e0:=(hF.done 5 (13,SP.is (.agg q.toArray)) (by rw[hD];rfl) (zaI hk 5 (by kernel_rfl)))
   refine zaE rfl rfl (wpH_bAk (.tmp 13) rfl q HL8.out e0 ?_)
   intro W2 q1 hB
   exact⟨((hF.world hB).put 6 14 (SP.any) (.slice (some ⟨W.heap.size,0,none⟩) 1 1) (by rw[hD];rfl) trivial (by rw[hD];rfl) (by rw[hsz];decide) (by rw[hl];decide)),hb1.trans (hB.mono hb1.size),Row.below rB hB (Row.lt rB),Row.below r4 hB (Row.lt r4),hHo.below hB,hFr.below hB,(fun _=>by change (SP.nAk q).P _ ((ac.put (some 14) _).eval (.tmp 14));rw[zaR ac _ (by rw[hF.size,hsz];decide)];exact⟨_,rfl,q1⟩)⟩
  ·exact absurd rfl hne
  ·have hk3:=hk
   have e0:=(hF.done 0 (8,SP.is (.pointer (some ⟨hb,0,none⟩))) (by rw[hD];rfl) (zaI hk 0 (by kernel_rfl)))
   exact zaE rfl rfl (ziP rfl hb e0 ⟨(hF.put 8 16 (SP.is (.pointer (some ⟨hb,0,none⟩))) (.pointer (some ⟨hb,0,none⟩)) (by rw[hD];rfl) rfl (by rw[hD];rfl) (by rw[hsz];decide) (by rw[hl];decide)),hb1,rB,r4,hHo,hFr,(fun h1=>by change (SP.nAk q).P _ ((ac.put (some 16) _).eval (.tmp 14));rw[zaB ac _ (by decide)];exact ti6 (by rwa [zaA _ _ _ (by decide)] at h1))⟩)
  ·have hk3:=hk
   have e0:=(hF.done 8 (16,SP.is (.pointer (some ⟨hb,0,none⟩))) (by rw[hD];rfl) (zaI hk 8 (by kernel_rfl)))
   exact zaE rfl rfl (zpR rfl hb e0 ⟨(hF.put 9 17 (SP.is (.pointer (some ⟨hb,1,none⟩))) (.pointer (some ⟨hb,1,none⟩)) (by rw[hD];rfl) rfl (by rw[hD];rfl) (by rw[hsz];decide) (by rw[hl];decide)),hb1,rB,r4,hHo,hFr,(fun h1=>by change (SP.nAk q).P _ ((ac.put (some 17) _).eval (.tmp 14));rw[zaB ac _ (by decide)];exact ti6 (by rwa [zaA _ _ _ (by decide)] at h1))⟩)
  ·exact absurd (zaI hk 7 (by kernel_rfl)) hnl
 ·clear ha0 hb1 rB r4 hHo hFr
  intro listed ac W hl hI hdn hk
  replace hl:listed.size=11:=hl
  obtain⟨hF,hb1,rB,r4,hHo,hFr,ti6⟩:=hI
  have e9:=(hF.done 4 (12,SP.is (.slice Aq n cq)) (by rw[hD];rfl) (zaI hk 4 (by kernel_rfl)))
  obtain⟨M,e11,q1⟩:=(ti6 (zaI hk 6 (by kernel_rfl)))
  have hno10:¬ listed.getD 10 false=true:=fun h=>zbD hk (hdn 10 h 7 (by kernel_rfl))
  refine zaE rfl rfl (zkU znN tAk 30 104 Tryz.underlying37 all_Ak (by decide) (by decide) (.tmp 12) (.tmp 14) rfl (.slice Aq n cq) n qs.flatten q e9 (HOW.out W hHo) M HL8.out e11 q1.all HO8.out HNB.out ?_)
  intro v5 W2 p1 p2 p3
  obtain⟨A7,c7,e7,_,_⟩:=Lw.form p1
  subst e7
  have hT:Fp D a0 listed ac W2:=hF.turn (by rw[hD];simp only[List.forall_mem_cons,List.not_mem_nil,false_implies,implies_true,and_true];exact⟨fun _ h=>h,fun _ h=>h,fun _ h=>h,fun _ h=>h,fun _ h=>h,fun _ h=>h,fun _ h=>h,fun _ h=>h,fun _ h=>h,fun _ h=>h,fun _ h=>h⟩)
  exact⟨A7,c7,(hT.put 7 15 SP.any _ (by rw[hD];rfl) trivial (by rw[hD];rfl) (by rw[hsz];decide) (by rw[hl];decide)),(zaR ac _ (by rw[hF.size,hsz];decide)),(by rw[zaA _ _ _ (by decide),if_neg hno10];exact zeA hHo.row p2 (zeF (Lw.ne (HOW.out W hHo) hHo.row (by decide)))),p1,(hFr.grown p2 (fun g eg=>.inl (.inr eg))),(fun g eg=>by rcases p3 with z|z;exact .inl (z ▸ eg);exact .inr (by rw[z] at eg;simp only[Option.some.injEq] at eg;have:=hFr.size;omega)),(zeA r4 p2 (zeF (Lw.ne (HOW.out W hHo) r4 (by decide))))⟩
 ·clear ha0 hb1 rB r4 hHo hFr
  intro listed ac W k hl hJ hdn hk hne hyl
  replace hl:listed.size=11:=hl
  obtain⟨A7,c7,hF,hJ1,hJ2,hJ3,hJ4,hJ5,hJ6⟩:=hJ
  have hk1:k<11:=List.mem_range.1 (List.mem_filter.1 hk).1
  rcases (show k=0\/k=1\/k=2\/k=3\/k=4\/k=5\/k=6\/k=7\/k=8\/k=9\/k=10 by omega) with rfl|rfl|rfl|rfl|rfl|rfl|rfl|rfl|rfl|rfl|rfl
  ·have hk3:=hk
   exact zaE rfl rfl (zbJ (ac.eval (.tmp 0)) rfl rfl ⟨A7,c7,(hF.put 0 8 (SP.is (.pointer (some ⟨hb,0,none⟩))) (ac.eval (.tmp 0)) (by rw[hD];rfl) (((hF.keep 0 (by rw[hD];rfl)).trans zs0)) (by rw[hD];rfl) (by rw[hsz];decide) (by rw[hl];decide)),(zaB ac _ (by decide)).trans (hJ1),(by rw[zaA _ _ _ (by decide)];exact hJ2),hJ3,hJ4,hJ5,hJ6⟩)
  ·exact absurd (hdn 2 (hdn 3 (hdn 4 (hdn 7 hyl 4 (by kernel_rfl)) 3 (by kernel_rfl)) 2 (by kernel_rfl)) 1 (by kernel_rfl)) (zbD hk)
  ·exact absurd (hdn 3 (hdn 4 (hdn 7 hyl 4 (by kernel_rfl)) 3 (by kernel_rfl)) 2 (by kernel_rfl)) (zbD hk)
  ·exact absurd (hdn 4 (hdn 7 hyl 4 (by kernel_rfl)) 3 (by kernel_rfl)) (zbD hk)
  ·exact absurd (hdn 7 hyl 4 (by kernel_rfl)) (zbD hk)
  ·exact absurd (hdn 6 (hdn 7 hyl 6 (by kernel_rfl)) 5 (by kernel_rfl)) (zbD hk)
  ·exact absurd (hdn 7 hyl 6 (by kernel_rfl)) (zbD hk)
  ·exact absurd rfl hne
  ·have hk3:=hk
   have e0:=(hF.done 0 (8,SP.is (.pointer (some ⟨hb,0,none⟩))) (by rw[hD];rfl) (zaI hk 0 (by kernel_rfl)))
   exact zaE rfl rfl (ziP rfl hb e0 ⟨A7,c7,(hF.put 8 16 (SP.is (.pointer (some ⟨hb,0,none⟩))) (.pointer (some ⟨hb,0,none⟩)) (by rw[hD];rfl) rfl (by rw[hD];rfl) (by rw[hsz];decide) (by rw[hl];decide)),(zaB ac _ (by decide)).trans (hJ1),(by rw[zaA _ _ _ (by decide)];exact hJ2),hJ3,hJ4,hJ5,hJ6⟩)
  ·have hk3:=hk
   have e0:=(hF.done 8 (16,SP.is (.pointer (some ⟨hb,0,none⟩))) (by rw[hD];rfl) (zaI hk 8 (by kernel_rfl)))
   exact zaE rfl rfl (zpR rfl hb e0 ⟨A7,c7,(hF.put 9 17 (SP.is (.pointer (some ⟨hb,1,none⟩))) (.pointer (some ⟨hb,1,none⟩)) (by rw[hD];rfl) rfl (by rw[hD];rfl) (by rw[hsz];decide) (by rw[hl];decide)),(zaB ac _ (by decide)).trans (hJ1),(by rw[zaA _ _ _ (by decide)];exact hJ2),hJ3,hJ4,hJ5,hJ6⟩)
  ·have hk3:=hk
   have e14:=(hF.done 9 (17,SP.is (.pointer (some ⟨hb,1,none⟩))) (by rw[hD];rfl) (zaI hk 9 (by kernel_rfl)))
   rw[if_neg (zbD hk)] at hJ2
   refine zaE rfl rfl (yaI znN (.tmp 17) (.tmp 15) rfl hb 1 (.slice A7 (n+1) c7) [rv,.slice Aq n cq,iv] tHo e14 hJ1 rfl hJ2 (Nat.lt_of_sub_pos (Nat.succ_pos _)) sz_Aks rfl ?_)
   intro W2 p1 p2
   have hT:Fp D a0 listed ac W2:=hF.turn (by rw[hD];simp only[List.forall_mem_cons,List.not_mem_nil,false_implies,implies_true,and_true];exact⟨fun _ h=>h,fun _ h=>h,fun _ h=>h,fun _ h=>h,fun _ h=>h,fun _ h=>h,fun _ h=>h,fun _ h=>h,fun _ h=>h,fun _ h=>h,fun _ h=>h⟩)
   exact⟨A7,c7,(hT.skip 10 1000 (by rw[hD];rfl) (by rw[hl];decide)),hJ1,(by rw[if_pos (zbC (by rw[hl];decide))];exact p1),(Lw.gro hJ3 p2 (fun g eg z=>Lw.ne hJ3 hJ2 (by decide) g eg z)),(Gro.trans hJ4 (Gro.mono p2 (fun g z=>.inl z))),hJ5,(p2.row hJ6 (zaN hJ6 hJ2 (by decide)))⟩
 ·clear hb1 rB r4 hHo hFr
  intro listed ac W hl hJ hr
  replace hl:listed.size=11:=hl
  obtain⟨A7,c7,hF,hJ1,hJ2,hJ3,hJ4,hJ5,hJ6⟩:=hJ
  have hall:=zcL (by kernel_rfl) hl hr
  rw[if_pos (hall 10 (by decide))] at hJ2
  have h8:ac.eval (.tmp 8)=.pointer (some ⟨hb,0,none⟩):=hF.done 0 (8,SP.is (.pointer (some ⟨hb,0,none⟩))) (by rw[hD];rfl) (hall 0 (by decide))
  have h9:ac.eval (.tmp 9)=.pointer (some ⟨hb,0,none⟩):=hF.done 1 (9,SP.is (.pointer (some ⟨hb,0,none⟩))) (by rw[hD];rfl) (hall 1 (by decide))
  have h10:ac.eval (.tmp 10)=.pointer (some ⟨hb,0,none⟩):=hF.done 2 (10,SP.is (.pointer (some ⟨hb,0,none⟩))) (by rw[hD];rfl) (hall 2 (by decide))
  have h11:ac.eval (.tmp 11)=.pointer (some ⟨hb,1,none⟩):=hF.done 3 (11,SP.is (.pointer (some ⟨hb,1,none⟩))) (by rw[hD];rfl) (hall 3 (by decide))
  have h12:ac.eval (.tmp 12)=.slice Aq n cq:=hF.done 4 (12,SP.is (.slice Aq n cq)) (by rw[hD];rfl) (hall 4 (by decide))
  have h13:ac.eval (.tmp 13)=.agg q.toArray:=hF.done 5 (13,SP.is (.agg q.toArray)) (by rw[hD];rfl) (hall 5 (by decide))
  obtain⟨x14,h14⟩:∃ x,ac.eval (.tmp 14)=x:=⟨_,rfl⟩
  have h16:ac.eval (.tmp 16)=.pointer (some ⟨hb,0,none⟩):=hF.done 8 (16,SP.is (.pointer (some ⟨hb,0,none⟩))) (by rw[hD];rfl) (hall 8 (by decide))
  have h17:ac.eval (.tmp 17)=.pointer (some ⟨hb,1,none⟩):=hF.done 9 (17,SP.is (.pointer (some ⟨hb,1,none⟩))) (by rw[hD];rfl) (hall 9 (by decide))
  have ea:=hF.lay [(8,.pointer (some ⟨hb,0,none⟩)),(9,.pointer (some ⟨hb,0,none⟩)),(10,.pointer (some ⟨hb,0,none⟩)),(11,.pointer (some ⟨hb,1,none⟩)),(12,.slice Aq n cq),(13,.agg q.toArray),(14,x14),(15,.slice A7 (n+1) c7),(16,.pointer (some ⟨hb,0,none⟩)),(17,.pointer (some ⟨hb,1,none⟩))] (by rw[hD,hsz];rfl) (by simp only[List.forall_mem_cons,List.not_mem_nil,false_implies,implies_true,and_true];exact⟨h8,h9,h10,h11,h12,h13,h14,hJ1,h16,h17⟩)
  rw[ha0] at ea
  simp only[List.foldl_cons,List.foldl_nil,jA,jB,jC] at ea
  clear hF hall hr hl hD zs0 zs3 ha0 hsz h8 h9 h10 h11 h12 h13 h14 hJ1 h16 h17
  subst ea
  have HGR:Hid (Gro (Hq hb (.slice Aq n cq)) w W):=hJ4
  have HHS:Hid (Hst W hb rv (.slice A7 (n+1) c7) iv rs (qs++[q]) []):=⟨hJ2,HHO.out.rp.rows (fun b h1 h2=>hJ4.block b h2 (fun e=>by rcases e with e|e;omega;have:=HHO.out.ah b e;omega)),by rw[List.length_append,List.flatten_append,List.length_singleton,<-HNL.out];simpa using hJ3,HHO.out.inr.rows fun b cs r=>hJ4.row r (fun e=>by rcases e with e|e;exact zaN r HHO.out.row (by decide) e;exact Lw.ne HHO.out.own r (by decide) b e rfl),fun g e=>by rcases hJ5 g e with z|z;exact HHO.out.ah g z;have:=HHO.out.row.lt;omega⟩
  have HNW:Hid (∀ g,(Value.slice A7 (n+1) c7).ownBlock=some g->(Value.slice Aq n cq).ownBlock=some g\/w.heap.size<=g):=hJ5
  have R4:Hid (Row W b4 zW 27):=hJ6
  clear hJ2 hJ3 hJ4 hJ5 hJ6 HOW
  obtain⟨X,hX⟩:∃ X,X=W:=⟨_,rfl⟩
  rw[<-hX] at HGR HHS R4 ⊢
  clear hX
  obtain⟨Ai,ci,hiv⟩:∃ A c,iv=.slice A 0 c:=by
   rcases HHS.out.inr with h|⟨g,c,cs,h1,_⟩
   ·exact h.2
   ·exact⟨_,_,h1⟩
  have d2:X.cell? ⟨hb,2,none⟩=some (.slice Ai 0 ci):=by rw[<-hiv];exact HHS.out.row.cell 2 _ rfl
  go_upto_region 5 with fail
  clear d2 hiv
  by_cases hlt:n<rs.length
  ·obtain⟨p,hp⟩:∃ p,rs[n]?=some p:=⟨_,List.getElem?_eq_getElem hlt⟩
   obtain⟨gr,ro,cr,hrv,hgh,hyc⟩:∃ g o c,rv=.slice (some ⟨g,o,none⟩) rs.length c/\g<hb/\X.rangeAt g o (frs rs):=by
    rcases HHS.out.rp with h|h
    ·rw[h.1] at hlt;cases hlt
    ·exact h
   have hgd:rs.getD n (0,0)=p:=by rw[List.getD_eq_getElem?_getD,hp];rfl
   have HGD:Hid (LV=wq p.1/\E=p.2):=by have:=HLV.out;rw[hgd] at this;exact this
   obtain⟨R,hR⟩:∃ R,R=rs.length:=⟨_,rfl⟩
   rw[<-hR] at hrv hlt
   subst hrv
   obtain⟨Y5,hY5⟩:∃ Y,Y=ry p:=⟨_,rfl⟩
   have HRG0:Hid (X.rangeAt gr (ro+n*5) Y5):=(fun j v hj=>by
    have h5:j<5:=by have:=(List.getElem?_eq_some_iff.1 hj).1;rwa [hY5,zdS] at this
    rw[Nat.add_assoc]
    exact hyc _ _ ((zsS rs n p hp j h5).trans (by rw[<-hY5];exact hj)))
   have HIY:Hid ((Tryz.prog.info? tYr).map (·.size)=some Y5.length):=by show _=_;rw[hY5,zdS];exact info_Yr
   have HYL:Hid (Y5.length<=zY.length):=by show _<=_;rw[hY5,zdS];decide
   have HYE:Hid (Y5.length=zY.length):=by show _=_;rw[hY5,zdS];rfl
   have HYO:Hid (Y5.toArray.all (·.oneCell')=true):=by show _=_;rw[hY5,<-Array.all_toList];unfold ry;simp only[List.all_append,List.all_cons,List.all_nil];have:=zbH p.1;rw[<-Array.all_toList] at this;rw[this];rfl
   have HY5:Hid (Y5=ry p):=hY5
   have HSUB:Hid (IntKind.i64.wrap (((n+1:Nat):Int)-1)=(n:Int)):=by show _=_;rw[IntKind.wrap_i64];have:=HN1.out;omega
   have HLT:Hid (n<R):=hlt
   have d0:X.cell? ⟨hb,0,none⟩=some (.slice (some ⟨gr,ro,none⟩) R cr):=HHS.out.row.cell 0 _ rfl
   have d1:X.cell? ⟨hb,1,none⟩=some (.slice A7 (n+1) c7):=HHS.out.row.cell 1 _ rfl
   have hle:((n+1:Nat):Int)<=(R:Int):=by omega
   clear hp hgd hR hlt hyc hY5
   go_upto_region 5 with fail
   go_quiet (fail)
   clear d0 d1
   obtain⟨Z,hZ⟩:∃ Z,Z=X.drewN nq:=⟨_,rfl⟩
   rw[<-hZ]
   have kz:Below X.heap.size X Z:=by rw[hZ];exact zbE (Below.refl _ _) nq
   have HGZ:Hid (Gro (Hq hb (.slice Aq n cq)) w Z):=HGR.out.below kz
   have HHZ:Hid (Hst Z hb (.slice (some ⟨gr,ro,none⟩) R cr) (.slice A7 (n+1) c7) iv rs (qs++[q]) []):=HHS.out.below kz
   have R4Z:Hid (Row Z b4 zW 27):=Row.below R4.out kz R4.out.lt
   have HRG:Hid (∀ W,Below Z.heap.size Z W->W.rangeAt gr (ro+n*5) Y5):=fun W k=>zaS (zaS HRG0.out kz) k
   clear hZ kz HGR HHS R4 HRG0
   go_upto_region 6 with fail
   have hb1:=Below.refl Z.heap.size Z
   have rh:=HHZ.out.row
   have r4:=R4Z.out
   obtain⟨T0,hT0⟩:∃ T,T+1=Z.heap.size:=⟨Z.heap.size-1,by have:=rh.lt;omega⟩
   have lh:hb<=T0:=by have:=rh.lt;omega
   have lg:gr<=T0:=by omega
   have l4:b4<=T0:=by have:=r4.lt;omega
   clear hle
   refine zeB fun a0 ha0=>?_
   have hsz:a0.tmps.size=63:=by rw[ha0];rfl
   have zs0:a0.eval (.tmp 0)=.pointer (some ⟨hb,0,none⟩):=by rw[ha0];rfl
   obtain⟨D,hD⟩:∃ D:List (Tmp × SP),D=[(46,SP.is (.pointer (some ⟨hb,0,none⟩))),(47,SP.is (.pointer (some ⟨hb,0,none⟩))),(48,SP.is (.pointer (some ⟨hb,0,none⟩))),(49,SP.is (.slice (some ⟨gr,ro,none⟩) R cr)),(50,SP.is (.pointer (some ⟨hb,0,none⟩))),(51,SP.is (.pointer (some ⟨hb,0,none⟩))),(52,SP.is (.pointer (some ⟨hb,1,none⟩))),(53,SP.is (.slice A7 (n+1) c7)),(54,SP.is (.int .i64 ((n+1:Nat):Int))),(55,SP.is (.int .i64 (n:Int))),(56,SP.is (.pointer (some ⟨gr,ro+n*5,none⟩))),(57,SP.is (.agg Y5.toArray)),(7,SP.any),(1000,SP.any)]:=⟨_,rfl⟩
   refine zbV (by kernel_rfl) (fun listed ac W=>∃ (b:Nat),listed.size=14/\Fp D a0 listed ac W/\Below Z.heap.size Z W/\Row W hb ([.slice (some ⟨gr,ro,none⟩) R cr,.slice A7 (n+1) c7,iv]) tHo/\Row W b4 zW 27/\(listed.getD 12 false=true->ac.eval (.tmp 7)=.pointer (some ⟨b,0,none⟩)/\T0<b/\Row W b (if listed.getD 13 false=true then Y5 else zY) tYr)/\(listed.getD 13 false=true->listed.getD 12 false=true)) ?_ ?_ ?_
   ·exact⟨0,by simp,Fp.start D a0 _ _,Below.drew hb1,Row.drew rh,Row.drew r4,(fun h=>(zbK h).elim),(fun h=>(zbK h).elim)⟩
   ·clear ha0 hb1 rh r4
    intro listed ac W k hI hdn hk
    obtain⟨b,hl,hF,hb1,rh,r4,al12,as12⟩:=hI
    have hk1:k<14:=List.mem_range.1 (List.mem_filter.1 hk).1
    have hl2:∀ j,(listed.setIfInBounds j true).size=14:=fun j=>by rw[Array.size_setIfInBounds];exact hl
    rcases (show k=0\/k=1\/k=2\/k=3\/k=4\/k=5\/k=6\/k=7\/k=8\/k=9\/k=10\/k=11\/k=12\/k=13 by omega) with rfl|rfl|rfl|rfl|rfl|rfl|rfl|rfl|rfl|rfl|rfl|rfl|rfl|rfl
    ·have hk3:=hk
     exact zaE rfl rfl (zbJ (ac.eval (.tmp 0)) rfl rfl ⟨b,hl2 0,(hF.put 0 46 (SP.is (.pointer (some ⟨hb,0,none⟩))) (ac.eval (.tmp 0)) (by rw[hD];rfl) (((hF.keep 0 (by rw[hD];rfl)).trans zs0)) (by rw[hD];rfl) (by rw[hsz];decide) (by rw[hl];decide)),hb1,rh,r4,(fun h=>⟨(zaB ac _ (by decide)).trans ((al12 (by rwa [zaA _ _ _ (by decide)] at h)).1),(al12 (by rwa [zaA _ _ _ (by decide)] at h)).2.1,by rw[zaA _ _ _ (by decide)];exact (al12 (by rwa [zaA _ _ _ (by decide)] at h)).2.2⟩),(fun h=>by rw[zaA _ _ _ (by decide)];exact as12 (by rwa [zaA _ _ _ (by decide)] at h))⟩)
    ·have hk3:=hk
     have e0:=(hF.done 0 (46,SP.is (.pointer (some ⟨hb,0,none⟩))) (by rw[hD];rfl) (zaI hk 0 (by kernel_rfl)))
     exact zaE rfl rfl (ziP rfl hb e0 ⟨b,hl2 1,(hF.put 1 47 (SP.is (.pointer (some ⟨hb,0,none⟩))) (.pointer (some ⟨hb,0,none⟩)) (by rw[hD];rfl) rfl (by rw[hD];rfl) (by rw[hsz];decide) (by rw[hl];decide)),hb1,rh,r4,(fun h=>⟨(zaB ac _ (by decide)).trans ((al12 (by rwa [zaA _ _ _ (by decide)] at h)).1),(al12 (by rwa [zaA _ _ _ (by decide)] at h)).2.1,by rw[zaA _ _ _ (by decide)];exact (al12 (by rwa [zaA _ _ _ (by decide)] at h)).2.2⟩),(fun h=>by rw[zaA _ _ _ (by decide)];exact as12 (by rwa [zaA _ _ _ (by decide)] at h))⟩)
    ·have hk3:=hk
     have e0:=(hF.done 1 (47,SP.is (.pointer (some ⟨hb,0,none⟩))) (by rw[hD];rfl) (zaI hk 1 (by kernel_rfl)))
     exact zaE rfl rfl (wpH_f0 rfl hb e0 ⟨b,hl2 2,(hF.put 2 48 (SP.is (.pointer (some ⟨hb,0,none⟩))) (.pointer (some ⟨hb,0,none⟩)) (by rw[hD];rfl) rfl (by rw[hD];rfl) (by rw[hsz];decide) (by rw[hl];decide)),hb1,rh,r4,(fun h=>⟨(zaB ac _ (by decide)).trans ((al12 (by rwa [zaA _ _ _ (by decide)] at h)).1),(al12 (by rwa [zaA _ _ _ (by decide)] at h)).2.1,by rw[zaA _ _ _ (by decide)];exact (al12 (by rwa [zaA _ _ _ (by decide)] at h)).2.2⟩),(fun h=>by rw[zaA _ _ _ (by decide)];exact as12 (by rwa [zaA _ _ _ (by decide)] at h))⟩)
    ·have hk3:=hk
     have e0:=(hF.done 2 (48,SP.is (.pointer (some ⟨hb,0,none⟩))) (by rw[hD];rfl) (zaI hk 2 (by kernel_rfl)))
     exact zaE rfl rfl (zvK hb 0 (.slice (some ⟨gr,ro,none⟩) R cr) rfl e0 (ldH_Ys W hb 0 _ (rh.cell 0 _ rfl)) ⟨b,hl2 3,(hF.put 3 49 (SP.is (.slice (some ⟨gr,ro,none⟩) R cr)) (.slice (some ⟨gr,ro,none⟩) R cr) (by rw[hD];rfl) rfl (by rw[hD];rfl) (by rw[hsz];decide) (by rw[hl];decide)),hb1,rh,r4,(fun h=>⟨(zaB ac _ (by decide)).trans ((al12 (by rwa [zaA _ _ _ (by decide)] at h)).1),(al12 (by rwa [zaA _ _ _ (by decide)] at h)).2.1,by rw[zaA _ _ _ (by decide)];exact (al12 (by rwa [zaA _ _ _ (by decide)] at h)).2.2⟩),(fun h=>by rw[zaA _ _ _ (by decide)];exact as12 (by rwa [zaA _ _ _ (by decide)] at h))⟩)
    ·have hk3:=hk
     exact zaE rfl rfl (zbJ (ac.eval (.tmp 0)) rfl rfl ⟨b,hl2 4,(hF.put 4 50 (SP.is (.pointer (some ⟨hb,0,none⟩))) (ac.eval (.tmp 0)) (by rw[hD];rfl) (((hF.keep 0 (by rw[hD];rfl)).trans zs0)) (by rw[hD];rfl) (by rw[hsz];decide) (by rw[hl];decide)),hb1,rh,r4,(fun h=>⟨(zaB ac _ (by decide)).trans ((al12 (by rwa [zaA _ _ _ (by decide)] at h)).1),(al12 (by rwa [zaA _ _ _ (by decide)] at h)).2.1,by rw[zaA _ _ _ (by decide)];exact (al12 (by rwa [zaA _ _ _ (by decide)] at h)).2.2⟩),(fun h=>by rw[zaA _ _ _ (by decide)];exact as12 (by rwa [zaA _ _ _ (by decide)] at h))⟩)
    ·have hk3:=hk
     have e0:=(hF.done 4 (50,SP.is (.pointer (some ⟨hb,0,none⟩))) (by rw[hD];rfl) (zaI hk 4 (by kernel_rfl)))
     exact zaE rfl rfl (ziP rfl hb e0 ⟨b,hl2 5,(hF.put 5 51 (SP.is (.pointer (some ⟨hb,0,none⟩))) (.pointer (some ⟨hb,0,none⟩)) (by rw[hD];rfl) rfl (by rw[hD];rfl) (by rw[hsz];decide) (by rw[hl];decide)),hb1,rh,r4,(fun h=>⟨(zaB ac _ (by decide)).trans ((al12 (by rwa [zaA _ _ _ (by decide)] at h)).1),(al12 (by rwa [zaA _ _ _ (by decide)] at h)).2.1,by rw[zaA _ _ _ (by decide)];exact (al12 (by rwa [zaA _ _ _ (by decide)] at h)).2.2⟩),(fun h=>by rw[zaA _ _ _ (by decide)];exact as12 (by rwa [zaA _ _ _ (by decide)] at h))⟩)
    ·have hk3:=hk
     have e0:=(hF.done 5 (51,SP.is (.pointer (some ⟨hb,0,none⟩))) (by rw[hD];rfl) (zaI hk 5 (by kernel_rfl)))
     exact zaE rfl rfl (zpR rfl hb e0 ⟨b,hl2 6,(hF.put 6 52 (SP.is (.pointer (some ⟨hb,1,none⟩))) (.pointer (some ⟨hb,1,none⟩)) (by rw[hD];rfl) rfl (by rw[hD];rfl) (by rw[hsz];decide) (by rw[hl];decide)),hb1,rh,r4,(fun h=>⟨(zaB ac _ (by decide)).trans ((al12 (by rwa [zaA _ _ _ (by decide)] at h)).1),(al12 (by rwa [zaA _ _ _ (by decide)] at h)).2.1,by rw[zaA _ _ _ (by decide)];exact (al12 (by rwa [zaA _ _ _ (by decide)] at h)).2.2⟩),(fun h=>by rw[zaA _ _ _ (by decide)];exact as12 (by rwa [zaA _ _ _ (by decide)] at h))⟩)
    ·have hk3:=hk
     have e0:=(hF.done 6 (52,SP.is (.pointer (some ⟨hb,1,none⟩))) (by rw[hD];rfl) (zaI hk 6 (by kernel_rfl)))
     exact zaE rfl rfl (zvK hb 1 (.slice A7 (n+1) c7) rfl e0 (ldH_As W hb 1 _ (rh.cell 1 _ rfl)) ⟨b,hl2 7,(hF.put 7 53 (SP.is (.slice A7 (n+1) c7)) (.slice A7 (n+1) c7) (by rw[hD];rfl) rfl (by rw[hD];rfl) (by rw[hsz];decide) (by rw[hl];decide)),hb1,rh,r4,(fun h=>⟨(zaB ac _ (by decide)).trans ((al12 (by rwa [zaA _ _ _ (by decide)] at h)).1),(al12 (by rwa [zaA _ _ _ (by decide)] at h)).2.1,by rw[zaA _ _ _ (by decide)];exact (al12 (by rwa [zaA _ _ _ (by decide)] at h)).2.2⟩),(fun h=>by rw[zaA _ _ _ (by decide)];exact as12 (by rwa [zaA _ _ _ (by decide)] at h))⟩)
    ·have hk3:=hk
     have e0:=(hF.done 7 (53,SP.is (.slice A7 (n+1) c7)) (by rw[hD];rfl) (zaI hk 7 (by kernel_rfl)))
     exact zaE rfl rfl (wpH_len znN tAk Tryz.underlying37 rfl e0 ⟨b,hl2 8,(hF.put 8 54 (SP.is (.int .i64 ((n+1:Nat):Int))) (.int .i64 ((n+1:Nat):Int)) (by rw[hD];rfl) rfl (by rw[hD];rfl) (by rw[hsz];decide) (by rw[hl];decide)),hb1,rh,r4,(fun h=>⟨(zaB ac _ (by decide)).trans ((al12 (by rwa [zaA _ _ _ (by decide)] at h)).1),(al12 (by rwa [zaA _ _ _ (by decide)] at h)).2.1,by rw[zaA _ _ _ (by decide)];exact (al12 (by rwa [zaA _ _ _ (by decide)] at h)).2.2⟩),(fun h=>by rw[zaA _ _ _ (by decide)];exact as12 (by rwa [zaA _ _ _ (by decide)] at h))⟩)
    ·have hk3:=hk
     have e0:=(hF.done 8 (54,SP.is (.int .i64 ((n+1:Nat):Int))) (by rw[hD];rfl) (zaI hk 8 (by kernel_rfl)))
     exact zaE rfl rfl (wpH_sub rfl rfl ((n+1:Nat):Int) 1 (n:Int) e0 rfl HSUB.out ⟨b,hl2 9,(hF.put 9 55 (SP.is (.int .i64 (n:Int))) (.int .i64 (n:Int)) (by rw[hD];rfl) rfl (by rw[hD];rfl) (by rw[hsz];decide) (by rw[hl];decide)),hb1,rh,r4,(fun h=>⟨(zaB ac _ (by decide)).trans ((al12 (by rwa [zaA _ _ _ (by decide)] at h)).1),(al12 (by rwa [zaA _ _ _ (by decide)] at h)).2.1,by rw[zaA _ _ _ (by decide)];exact (al12 (by rwa [zaA _ _ _ (by decide)] at h)).2.2⟩),(fun h=>by rw[zaA _ _ _ (by decide)];exact as12 (by rwa [zaA _ _ _ (by decide)] at h))⟩)
    ·have hk3:=hk
     have e0:=(hF.done 3 (49,SP.is (.slice (some ⟨gr,ro,none⟩) R cr)) (by rw[hD];rfl) (zaI hk 3 (by kernel_rfl)))
     have e1:=(hF.done 9 (55,SP.is (.int .i64 (n:Int))) (by rw[hD];rfl) (zaI hk 9 (by kernel_rfl)))
     exact zaE rfl rfl (wpH_ix rfl gr ro R cr n e0 e1 HLT.out ⟨b,hl2 10,(hF.put 10 56 (SP.is (.pointer (some ⟨gr,ro+n*5,none⟩))) (.pointer (some ⟨gr,ro+n*5,none⟩)) (by rw[hD];rfl) rfl (by rw[hD];rfl) (by rw[hsz];decide) (by rw[hl];decide)),hb1,rh,r4,(fun h=>⟨(zaB ac _ (by decide)).trans ((al12 (by rwa [zaA _ _ _ (by decide)] at h)).1),(al12 (by rwa [zaA _ _ _ (by decide)] at h)).2.1,by rw[zaA _ _ _ (by decide)];exact (al12 (by rwa [zaA _ _ _ (by decide)] at h)).2.2⟩),(fun h=>by rw[zaA _ _ _ (by decide)];exact as12 (by rwa [zaA _ _ _ (by decide)] at h))⟩)
    ·have hk3:=hk
     have e0:=(hF.done 10 (56,SP.is (.pointer (some ⟨gr,ro+n*5,none⟩))) (by rw[hD];rfl) (zaI hk 10 (by kernel_rfl)))
     exact zaE rfl rfl (wp_load_mid tYr (.tmp 56) rfl gr (ro+n*5) e0 Y5 _ (HRG.out W hb1) Tryz.underlying64 rfl HIY.out ⟨b,hl2 11,(hF.put 11 57 (SP.is (.agg Y5.toArray)) (.agg Y5.toArray) (by rw[hD];rfl) rfl (by rw[hD];rfl) (by rw[hsz];decide) (by rw[hl];decide)),hb1,rh,r4,(fun h=>⟨(zaB ac _ (by decide)).trans ((al12 (by rwa [zaA _ _ _ (by decide)] at h)).1),(al12 (by rwa [zaA _ _ _ (by decide)] at h)).2.1,by rw[zaA _ _ _ (by decide)];exact (al12 (by rwa [zaA _ _ _ (by decide)] at h)).2.2⟩),(fun h=>by rw[zaA _ _ _ (by decide)];exact as12 (by rwa [zaA _ _ _ (by decide)] at h))⟩)
    ·have hk3:=hk
     have hsm:T0<W.heap.size:=(by have:=hb1.size;omega)
     have hB:Below W.heap.size W (W.alloc (Obj.cells zY.toArray tYr)):=(Below.refl _ _).alloc (Nat.le_refl _) _
     have hns:¬ listed.getD 13 false=true:=fun h=>zbD hk (as12 h)
     exact zaE rfl rfl (zrC rfl ⟨W.heap.size,hl2 12,((hF.world hB).put 12 7 (SP.any) (.pointer (some ⟨W.heap.size,0,none⟩)) (by rw[hD];rfl) trivial (by rw[hD];rfl) (by rw[hsz];decide) (by rw[hl];decide)),hb1.alloc hb1.size _,Row.alloc rh _,Row.alloc r4 _,(fun _=>⟨zaR ac _ (by rw[hF.size,hsz];decide),hsm,by rw[zaA _ _ _ (by decide),if_neg hns];exact Row.new' rfl rfl⟩),(fun _=>zbC (by rw[hl];decide))⟩)
    ·have hk3:=hk
     have hal:=zaI hk 12 (by kernel_rfl)
     obtain⟨e1,m1,y2⟩:=al12 hal
     rw[if_neg (zbD hk)] at y2
     have T:=y2.there 0 Y5.toArray.size (by simpa using HYL.out)
     have fin:=y2.over (vs:=Y5) HYE.out
     have hT:Fp D a0 listed ac (W.setCells b 0 Y5):=hF.turn (by rw[hD];simp only[List.forall_mem_cons,List.not_mem_nil,false_implies,implies_true,and_true];exact⟨fun _ h=>h,fun _ h=>h,fun _ h=>h,fun _ h=>h,fun _ h=>h,fun _ h=>h,fun _ h=>h,fun _ h=>h,fun _ h=>h,fun _ h=>h,fun _ h=>h,fun _ h=>h,fun _ h=>h,fun _ h=>h⟩)
     exact zaE rfl rfl (wp_store_mid tYr (.tmp 7) (.tmp 57) rfl b 0 Y5.toArray e1 (hF.done 11 (57,SP.is (.agg Y5.toArray)) (by rw[hD];rfl) (zaI hk 11 (by kernel_rfl))) T HIY.out HYO.out ⟨b,hl2 13,(hT.skip 13 1000 (by rw[hD];rfl) (by rw[hl];decide)),zaC hb1 (by omega) _,Row.setCells_other rh _ _ _ (by omega),Row.setCells_other r4 _ _ _ (by omega),(fun _=>⟨e1,m1,by rw[if_pos (zbC (by rw[hl];decide))];exact fin⟩),(fun _=>by rw[zaA _ _ _ (by decide)];exact hal)⟩)
   ·clear hb1 rh r4
    intro listed ac W hI hr
    obtain⟨b,hl,hF,hb1,rh,r4,al12,as12⟩:=hI
    have hall:=zcL (by kernel_rfl) hl hr
    obtain⟨ea7,m7,p7⟩:=al12 (hall 12 (by decide))
    rw[if_pos (hall 13 (by decide))] at p7
    have h46:ac.eval (.tmp 46)=.pointer (some ⟨hb,0,none⟩):=hF.done 0 (46,SP.is (.pointer (some ⟨hb,0,none⟩))) (by rw[hD];rfl) (hall 0 (by decide))
    have h47:ac.eval (.tmp 47)=.pointer (some ⟨hb,0,none⟩):=hF.done 1 (47,SP.is (.pointer (some ⟨hb,0,none⟩))) (by rw[hD];rfl) (hall 1 (by decide))
    have h48:ac.eval (.tmp 48)=.pointer (some ⟨hb,0,none⟩):=hF.done 2 (48,SP.is (.pointer (some ⟨hb,0,none⟩))) (by rw[hD];rfl) (hall 2 (by decide))
    have h49:ac.eval (.tmp 49)=.slice (some ⟨gr,ro,none⟩) R cr:=hF.done 3 (49,SP.is (.slice (some ⟨gr,ro,none⟩) R cr)) (by rw[hD];rfl) (hall 3 (by decide))
    have h50:ac.eval (.tmp 50)=.pointer (some ⟨hb,0,none⟩):=hF.done 4 (50,SP.is (.pointer (some ⟨hb,0,none⟩))) (by rw[hD];rfl) (hall 4 (by decide))
    have h51:ac.eval (.tmp 51)=.pointer (some ⟨hb,0,none⟩):=hF.done 5 (51,SP.is (.pointer (some ⟨hb,0,none⟩))) (by rw[hD];rfl) (hall 5 (by decide))
    have h52:ac.eval (.tmp 52)=.pointer (some ⟨hb,1,none⟩):=hF.done 6 (52,SP.is (.pointer (some ⟨hb,1,none⟩))) (by rw[hD];rfl) (hall 6 (by decide))
    have h53:ac.eval (.tmp 53)=.slice A7 (n+1) c7:=hF.done 7 (53,SP.is (.slice A7 (n+1) c7)) (by rw[hD];rfl) (hall 7 (by decide))
    have h54:ac.eval (.tmp 54)=.int .i64 ((n+1:Nat):Int):=hF.done 8 (54,SP.is (.int .i64 ((n+1:Nat):Int))) (by rw[hD];rfl) (hall 8 (by decide))
    have h55:ac.eval (.tmp 55)=.int .i64 (n:Int):=hF.done 9 (55,SP.is (.int .i64 (n:Int))) (by rw[hD];rfl) (hall 9 (by decide))
    have h56:ac.eval (.tmp 56)=.pointer (some ⟨gr,ro+n*5,none⟩):=hF.done 10 (56,SP.is (.pointer (some ⟨gr,ro+n*5,none⟩))) (by rw[hD];rfl) (hall 10 (by decide))
    have h57:ac.eval (.tmp 57)=.agg Y5.toArray:=hF.done 11 (57,SP.is (.agg Y5.toArray)) (by rw[hD];rfl) (hall 11 (by decide))
    have ea:=hF.lay [(46,.pointer (some ⟨hb,0,none⟩)),(47,.pointer (some ⟨hb,0,none⟩)),(48,.pointer (some ⟨hb,0,none⟩)),(49,.slice (some ⟨gr,ro,none⟩) R cr),(50,.pointer (some ⟨hb,0,none⟩)),(51,.pointer (some ⟨hb,0,none⟩)),(52,.pointer (some ⟨hb,1,none⟩)),(53,.slice A7 (n+1) c7),(54,.int .i64 ((n+1:Nat):Int)),(55,.int .i64 (n:Int)),(56,.pointer (some ⟨gr,ro+n*5,none⟩)),(57,.agg Y5.toArray),(7,.pointer (some ⟨b,0,none⟩))] (by rw[hD,hsz];rfl) (by simp only[List.forall_mem_cons,List.not_mem_nil,false_implies,implies_true,and_true];exact⟨h46,h47,h48,h49,h50,h51,h52,h53,h54,h55,h56,h57,ea7⟩)
    rw[ha0] at ea
    simp only[List.foldl_cons,List.foldl_nil,jA,jB,jC] at ea
    clear hF hall hr hl hD al12 as12 zs0 ha0 hsz h46 h47 h48 h49 h50 h51 h52 h53 h54 h55 h56 h57 ea7
    subst ea
    have hpv:∃ a0 a1 a2 a3:Int,wq p.1=[.int .u64 a0,.int .u64 a1,.int .u64 a2,.int .u64 a3]:=⟨_,_,_,_,zaQ p.1⟩
    obtain⟨a0,a1,a2,a3,hwq⟩:=hpv
    have hY:Y5=[.int .u64 a0,.int .u64 a1,.int .u64 a2,.int .u64 a3,.int .i64 E]:=by rw[HY5.out];unfold ry;rw[hwq,HGD.out.2];rfl
    have HLQ:Hid (LV=[.int .u64 a0,.int .u64 a1,.int .u64 a2,.int .u64 a3]):=by rw[HGD.out.1];exact hwq
    rw[hY] at p7
    have R4W:Hid (Row W b4 zW 27):=r4
    have BW:Hid (Below Z.heap.size Z W):=hb1
    have u0:=p7.cell 0 _ rfl
    have u1:=p7.cell 1 _ rfl
    have u2:=p7.cell 2 _ rfl
    have u3:=p7.cell 3 _ rfl
    have u4:=p7.cell 4 _ rfl
    have v0:=r4.cell 0 _ rfl
    have f0:=r4.thaw 0
    have v1:=r4.cell 1 _ rfl
    have f1:=r4.thaw 1
    have v2:=r4.cell 2 _ rfl
    have f2:=r4.thaw 2
    have v3:=r4.cell 3 _ rfl
    have f3:=r4.thaw 3
    have nb:b4≠b:=by omega
    have nb':b≠b4:=by omega
    clear hb1 rh r4 p7 m7 hT0 l4 lh lg hY hwq
    go_wp2_with fail
    go_region
    all_goals
     have RF:=(((R4W.out.set 0 (.int .u64 a0)).set 1 (.int .u64 a1)).set 2 (.int .u64 a2)).set 3 (.int .u64 a3)
     have GF:Gro (·=b4) W _:=((((Gro.refl (·=b4) W).set b4 0 (.int .u64 a0) rfl).set b4 1 (.int .u64 a1) rfl).set b4 2 (.int .u64 a2) rfl).set b4 3 (.int .u64 a3) rfl
     have RFD:=RF.drew
     have GFD:=zjW GF
     have kh:Kh hb Z _:=⟨fun bb cs t ht r=>GFD.row (Row.below r BW.out r.lt) (fun e=>by
      have hne:t≠27:=by rcases ht with h|h|h|h <;> rw[h] <;> decide
      exact zaN r R4Z.out hne e),fun bb h1 h2=>(GFD.block bb (Nat.lt_of_lt_of_le h2 BW.out.size) (fun e=>by have:=HB4.out;have:=HHW.out;omega)).trans (BW.out.block bb h2)⟩
     have HF:=HHZ.out.kh kh
     have GX:=(HGZ.out.below BW.out).then GFD (fun g e=>.inr (by rw[e];exact HB4.out))
     clear u0 u1 u2 u3 u4 v0 v1 v2 v3 f0 f1 f2 f3
     go_wp2_with fail
     exact bodyPost_ret (zaM Tryz.results132 _ _ b4 27 [.int .u64 a0,.int .u64 a1,.int .u64 a2,.int .u64 a3] (.int .i64 E) rfl rfl RFD Tryz.underlying27 zaL rfl) rfl ⟨.slice A7 (n+1) c7,by rw[HLQ.out],HF,GX,HNW.out⟩
  ·have hgd:rs.getD n (0,0)=(0,0):=by rw[List.getD_eq_getElem?_getD,List.getElem?_eq_none (by omega)];rfl
   have HGD:Hid (LV=zW/\E=0):=by have:=HLV.out;rw[hgd] at this;exact⟨this.1.trans ziW,this.2⟩
   obtain⟨Ar,R,cr,hrv,hR⟩:∃ A R c,rv=.slice A R c/\R=rs.length:=by
    rcases HHS.out.rp with ⟨h1,A,c,h2⟩|⟨g,o,c,h1,_⟩
    ·exact⟨A,0,c,h2,by rw[h1];rfl⟩
    ·exact⟨_,_,c,h1,rfl⟩
   subst hrv
   have d0:X.cell? ⟨hb,0,none⟩=some (.slice Ar R cr):=HHS.out.row.cell 0 _ rfl
   have d1:X.cell? ⟨hb,1,none⟩=some (.slice A7 (n+1) c7):=HHS.out.row.cell 1 _ rfl
   have hle:¬ ((n+1:Nat):Int)<=(R:Int):=by omega
   clear hgd hR hlt
   go_upto_region 5 with fail
   go_quiet (fail)
   clear d0 d1
   obtain⟨Z,hZ⟩:∃ Z,Z=X.drewN nq:=⟨_,rfl⟩
   rw[<-hZ]
   have kz:Below X.heap.size X Z:=by rw[hZ];exact zbE (Below.refl _ _) nq
   have HGZ:Hid (Gro (Hq hb (.slice Aq n cq)) w Z):=HGR.out.below kz
   have HHZ:Hid (Hst Z hb (.slice Ar R cr) (.slice A7 (n+1) c7) iv rs (qs++[q]) []):=HHS.out.below kz
   have R4Z:Hid (Row Z b4 zW 27):=Row.below R4.out kz R4.out.lt
   clear hZ kz HGR HHS R4
   go_wp2_with (refine zaD rfl 27 (.tmp 4) (.tmp 62) rfl b4 zW zW 27 rfl rfl R4Z.out rfl zfB (by rw[<-Array.all_toList];rfl) ?_;intro X9 (E9:Hid (X9=_)) (R9:Hid (Row X9 b4 zW 27));simp only[Act.put])
   have GF:Gro (·=b4) Z X9:=by rw[E9.out];exact zbB b4 _ 0 Z Z (Gro.refl _ Z)
   have kh:Kh hb Z X9:=⟨fun bb cs t ht r=>GF.row r (fun e=>by
    have hne:t≠27:=by rcases ht with h|h|h|h <;> rw[h] <;> decide
    exact zaN r R4Z.out hne e),fun bb h1 h2=>GF.block bb h2 (fun e=>by have:=HB4.out;have:=HHW.out;omega)⟩
   have HF:=HHZ.out.kh kh
   have GX:=HGZ.out.then GF (fun g e=>.inr (by rw[e];exact HB4.out))
   refine bodyPost_ret (zaM Tryz.results132 _ _ b4 27 zW (.int .i64 0) rfl rfl R9.out Tryz.underlying27 zaL rfl) rfl ?_
   exact⟨by rw[HGD.out.1,HGD.out.2],Value.slice A7 (n+1) c7,HF,GX,HNW.out⟩
def aq (k a b t:Nat) (who:List Value):List Value:=.int .i64 (k:Int) :: (wq a++(wq b++(.int .i64 (t:Int) :: who)))
theorem zeH (k a b t:Nat) (who:List Value) (h:who.length=20):(aq k a b t who).length=30:=by
 unfold aq
 simp only[List.length_cons,List.length_append,zaV,h]
def exh (rs:List (Nat × Int)) (c:Nat) (st:List Nat) (nx nq:Nat):Except Int (List Nat × Nat) × List (List Value):=
 if c=24 then (if (rs.getD nq (0,0)).2=0 then .ok ((rs.getD nq (0,0)).1 :: st.drop 1,nx) else .error (rs.getD nq (0,0)).2,[aq 1 (st.getD 0 0) 0 0 z20])
 else if c=25 then (if (rs.getD nq (0,0)).2=0 then .ok (st.drop 2,nx) else .error (rs.getD nq (0,0)).2,[aq 2 (st.getD 1 0) (st.getD 0 0) 0 z20])
 else if c=26 then (if st.getD 1 0<64 then (if (rs.getD nq (0,0)).2=0 then .ok ((rs.getD nq (0,0)).1 :: st.drop 2,nx) else .error (rs.getD nq (0,0)).2,[aq 3 0 0 (st.getD 1 0) (adr (st.getD 0 0))]) else (.error 104,[]))
 else (if st.getD 2 0<64 then (if (rs.getD nq (0,0)).2=0 then .ok (st.drop 3,nx) else .error (rs.getD nq (0,0)).2,[aq 4 (st.getD 0 0) 0 (st.getD 2 0) (adr (st.getD 1 0))]) else (.error 104,[]))
def stU (cl:Cl) (ags:List Nat) (ls:List Ins) (rs:List (Nat × Int)) (x:Ins) (st:List Nat) (l nx nq:Nat):Except Int (List Nat × Nat) × List (List Value):=
 if l<gT x.c then (.error 102,[]) else if st.length<tT x.c x.n\/64<st.length-tT x.c x.n+lT x.c x.n then (.error 103,[])
 else if x.c=1 then (.ok (st.drop 1,nx+1),[])
 else if x.c<24 then (exi cl ags ls x.c x.a x.n st (l-gT x.c) (nx+1),[])
 else exh rs x.c st (nx+1) nq
def ev2 (cl:Cl) (ags:List Nat) (ls:List Ins) (rs:List (Nat × Int)):Nat->List Nat->Nat->Nat->Nat->Except Int (Nat × Nat) × List (List Value)
 |0,_,_,_,_=>(.error 0,[])
 |f+1,st,l,nx,nq=>match ls[nx]? with
  |none=>(.error 106,[])
  |some x=>match stU cl ags ls rs x st l nx nq with
   |(.error E,q)=>(.error E,q)
   |(.ok (st',nx'),q)=>if x.c=1 then (.ok (st.getD 0 0,l-1),q) else
    ((ev2 cl ags ls rs f st' (l-gT x.c) nx' (nq+q.length)).1,q++(ev2 cl ags ls rs f st' (l-gT x.c) nx' (nq+q.length)).2)
section
variable {cl:Cl} {ags:List Nat} {ls:List Ins} {rs rs':List (Nat × Int)} {x:Ins} {st:List Nat} {l nx nq:Nat}
theorem exh_one (c:Nat):(exh rs c st nx nq).2=[]\/∃ a,(exh rs c st nx nq).2=[a]/\a.length=30:=by
 have hz:z20.length=20:=by simp
 unfold exh
 split
 ·exact .inr ⟨_,rfl,zeH _ _ _ _ _ hz⟩
 split
 ·exact .inr ⟨_,rfl,zeH _ _ _ _ _ hz⟩
 split
 ·split
  ·exact .inr ⟨_,rfl,zeH _ _ _ _ _ (zdL _)⟩
  ·exact .inl rfl
 split
 ·exact .inr ⟨_,rfl,zeH _ _ _ _ _ (zdL _)⟩
 ·exact .inl rfl
theorem zuP:(stU cl ags ls rs x st l nx nq).2=[]\/∃ a,(stU cl ags ls rs x st l nx nq).2=[a]/\a.length=30:=by
 unfold stU
 split
 ·exact .inl rfl
 split
 ·exact .inl rfl
 split
 ·exact .inl rfl
 split
 ·exact .inl rfl
 exact exh_one _
theorem zuO {y:List Nat × Nat} (h:(stU cl ags ls rs x st l nx nq).1=.ok y):gT x.c<=l:=by
 unfold stU at h
 split at h
 ·cases h
 ·omega
theorem zuN (hc:x.c<28) (h:(stU cl ags ls rs x st l nx nq).2 ≠ []):200<=gT x.c/\gT x.c<=l:=by
 unfold stU at h
 split at h
 ·exact (h rfl).elim
 rename_i h1
 split at h
 ·exact (h rfl).elim
 split at h
 ·exact (h rfl).elim
 split at h
 ·exact (h rfl).elim
 rename_i h4
 refine⟨?_,by omega⟩
 rcases (show x.c=24\/x.c=25\/x.c=26\/x.c=27 by omega) with h|h|h|h <;> rw[h] <;> decide
end
theorem gT_pos (c:Nat) (hc:c<28):1<=gT c:=by
 have:∀ c:Fin 28,1<=gT c.1:=by decide
 exact this ⟨c,hc⟩
theorem zcA {B:Nat} (hB:0<B) {st:List Nat} (h:∀ a ∈ st,a<B) (i:Nat):st.getD i 0<B:=by
 rw[List.getD_eq_getElem?_getD]
 cases e:st[i]? with
 |none=>exact hB
 |some v=>exact h v (List.mem_of_getElem? e)
theorem zbY {B a:Nat} {st:List Nat} (ha:a<B) (h:∀ a ∈ st,a<B):∀ u ∈ a :: st,u<B:=fun u hu=>by
 rcases List.mem_cons.1 hu with rfl|hu
 ·exact ha
 ·exact h u hu
theorem zcJ {B:Nat} {st:List Nat} (h:∀ a ∈ st,a<B) (n:Nat):∀ u ∈ st.drop n,u<B:=fun u hu=>h u (List.mem_of_mem_drop hu)
theorem set_lt {B a:Nat} {st:List Nat} (ha:a<B) (h:∀ a ∈ st,a<B) (n:Nat):∀ u ∈ st.set n a,u<B:=fun u hu=>by
 rcases List.mem_or_eq_of_mem_set hu with hu|rfl
 ·exact h u hu
 ·exact ha
theorem bit_lt {B:Nat} (hB:1<B) (b:Bool):(if b=true then 1 else 0)<B:=by cases b <;> simp <;> omega
structure zpW (B:Nat) (cl:Cl) (ags:List Nat) (ls:List Ins) (rs:List (Nat × Int)):Prop where
 one:10001<B
 vbin:∀ {c x y z:Nat} {E:Int},x<B->y<B->bin c x y=some (z,E)->z<B
 vag:∀ a ∈ ags,a<B
 al:ags.length<=8
 vnb:∀ b:List (BitVec 8),nb b<B
 tok:cl.tok<B
 amt:cl.amt<B
 tm:cl.tm<B
 vls:∀ y ∈ ls,y.a<B
 vrs:∀ p ∈ rs,p.1<B
 jmp:∀ y ∈ ls,y.c=14\/y.c=15->stf ls y.n≠0
theorem exi_inv {B:Nat} {cl:Cl} {ags:List Nat} {ls:List Ins} {rs:List (Nat × Int)} (V:zpW B cl ags ls rs) (c a ni:Nat) (ha:a<B) (hj:c=14\/c=15->stf ls ni≠0) (hc:c<24) (hc1:c≠1) (st:List Nat) (hst:∀ a ∈ st,a<B) (ht:tT c ni<=st.length) (l nx:Nat) (hl:l<=10000) (hnx:nx<=ls.length) :
 (∀ st' nx',exi cl ags ls c a ni st l nx=.ok (st',nx')->(∀ u ∈ st',u<B)/\st'.length=st.length-tT c ni+lT c ni/\nx'<=ls.length)/\(∀ E,exi cl ags ls c a ni st l nx=.error E->E≠0):=by
 have hB0:0<B:=Nat.lt_trans (by decide) V.one
 have hB1:1<B:=Nat.lt_trans (by decide) V.one
 have hsf:stf ls ni-1<=ls.length:=by have:=stf_le ls ni;omega
 rcases (show c=0\/c=2\/c=3\/c=4\/c=5\/c=6\/c=7\/c=8\/c=9\/c=10\/c=11\/c=12\/c=13\/c=14\/c=15\/c=16\/c=17\/c=18\/c=19\/c=20\/c=21\/c=22\/c=23 by omega) with rfl|rfl|rfl|rfl|rfl|rfl|rfl|rfl|rfl|rfl|rfl|rfl|rfl|rfl|rfl|rfl|rfl|rfl|rfl|rfl|rfl|rfl|rfl
 ·have e:exi cl ags ls 0 a ni st l nx=.error 105:=rfl
  rw[e]
  refine⟨fun st' nx' h=>(by cases h),fun E h=>?_⟩
  simp only[Except.error.injEq] at h
  omega
 ·have e:exi cl ags ls 2 a ni st l nx=.ok (a :: st,nx):=rfl
  rw[e]
  refine⟨fun st' nx' h=>?_,fun E h=>by cases h⟩
  simp only[Except.ok.injEq,Prod.mk.injEq] at h
  obtain⟨rfl,rfl⟩:=h
  exact⟨zbY ha hst,by simp [tT,lT] at ht ⊢;try omega,hnx⟩
 ·have e:exi cl ags ls 3 a ni st l nx=.ok (st.drop 1,nx):=rfl
  rw[e]
  refine⟨fun st' nx' h=>?_,fun E h=>by cases h⟩
  simp only[Except.ok.injEq,Prod.mk.injEq] at h
  obtain⟨rfl,rfl⟩:=h
  exact⟨zcJ hst 1,by simp [tT,lT] at ht ⊢;try omega,hnx⟩
 ·have e:exi cl ags ls 4 a ni st l nx=.ok (st.getD ni 0 :: st,nx):=rfl
  rw[e]
  refine⟨fun st' nx' h=>?_,fun E h=>by cases h⟩
  simp only[Except.ok.injEq,Prod.mk.injEq] at h
  obtain⟨rfl,rfl⟩:=h
  exact⟨zbY (zcA hB0 hst ni) hst,by simp [tT,lT] at ht ⊢;try omega,hnx⟩
 ·have e:exi cl ags ls 5 a ni st l nx=.ok ((st.set 0 (st.getD ni 0)).set ni (st.getD 0 0),nx):=rfl
  rw[e]
  refine⟨fun st' nx' h=>?_,fun E h=>by cases h⟩
  simp only[Except.ok.injEq,Prod.mk.injEq] at h
  obtain⟨rfl,rfl⟩:=h
  exact⟨set_lt (zcA hB0 hst 0) (set_lt (zcA hB0 hst ni) hst 0) ni,by simp [tT,lT] at ht ⊢;try omega,hnx⟩
 ·have e:exi cl ags ls 6 a ni st l nx=(match bin 6 (st.getD 1 0) (st.getD 0 0) with|some (z,E)=>if E=0 then .ok (z :: st.drop 2,nx) else .error 104|none=>.error 0):=rfl
  obtain⟨z,E,hb⟩:∃ z E,bin 6 (st.getD 1 0) (st.getD 0 0)=some (z,E):=⟨_,_,rfl⟩
  have hz:=V.vbin (zcA hB0 hst 1) (zcA hB0 hst 0) hb
  rw[e,hb]
  simp only
  split
  ·refine⟨fun st' nx' h=>?_,fun E h=>by cases h⟩
   simp only[Except.ok.injEq,Prod.mk.injEq] at h
   obtain⟨rfl,rfl⟩:=h
   exact⟨zbY hz (zcJ hst 2),by simp [tT,lT] at ht ⊢,hnx⟩
  ·refine⟨fun st' nx' h=>(by cases h),fun E h=>?_⟩
   simp only[Except.error.injEq] at h
   omega
 ·have e:exi cl ags ls 7 a ni st l nx=(match bin 7 (st.getD 1 0) (st.getD 0 0) with|some (z,E)=>if E=0 then .ok (z :: st.drop 2,nx) else .error 104|none=>.error 0):=rfl
  obtain⟨z,E,hb⟩:∃ z E,bin 7 (st.getD 1 0) (st.getD 0 0)=some (z,E):=⟨_,_,rfl⟩
  have hz:=V.vbin (zcA hB0 hst 1) (zcA hB0 hst 0) hb
  rw[e,hb]
  simp only
  split
  ·refine⟨fun st' nx' h=>?_,fun E h=>by cases h⟩
   simp only[Except.ok.injEq,Prod.mk.injEq] at h
   obtain⟨rfl,rfl⟩:=h
   exact⟨zbY hz (zcJ hst 2),by simp [tT,lT] at ht ⊢,hnx⟩
  ·refine⟨fun st' nx' h=>(by cases h),fun E h=>?_⟩
   simp only[Except.error.injEq] at h
   omega
 ·have e:exi cl ags ls 8 a ni st l nx=(match bin 8 (st.getD 1 0) (st.getD 0 0) with|some (z,E)=>if E=0 then .ok (z :: st.drop 2,nx) else .error 104|none=>.error 0):=rfl
  obtain⟨z,E,hb⟩:∃ z E,bin 8 (st.getD 1 0) (st.getD 0 0)=some (z,E):=⟨_,_,rfl⟩
  have hz:=V.vbin (zcA hB0 hst 1) (zcA hB0 hst 0) hb
  rw[e,hb]
  simp only
  split
  ·refine⟨fun st' nx' h=>?_,fun E h=>by cases h⟩
   simp only[Except.ok.injEq,Prod.mk.injEq] at h
   obtain⟨rfl,rfl⟩:=h
   exact⟨zbY hz (zcJ hst 2),by simp [tT,lT] at ht ⊢,hnx⟩
  ·refine⟨fun st' nx' h=>(by cases h),fun E h=>?_⟩
   simp only[Except.error.injEq] at h
   omega
 ·have e:exi cl ags ls 9 a ni st l nx=(match bin 9 (st.getD 1 0) (st.getD 0 0) with|some (z,E)=>if E=0 then .ok (z :: st.drop 2,nx) else .error 104|none=>.error 0):=rfl
  obtain⟨z,E,hb⟩:∃ z E,bin 9 (st.getD 1 0) (st.getD 0 0)=some (z,E):=⟨_,_,rfl⟩
  have hz:=V.vbin (zcA hB0 hst 1) (zcA hB0 hst 0) hb
  rw[e,hb]
  simp only
  split
  ·refine⟨fun st' nx' h=>?_,fun E h=>by cases h⟩
   simp only[Except.ok.injEq,Prod.mk.injEq] at h
   obtain⟨rfl,rfl⟩:=h
   exact⟨zbY hz (zcJ hst 2),by simp [tT,lT] at ht ⊢,hnx⟩
  ·refine⟨fun st' nx' h=>(by cases h),fun E h=>?_⟩
   simp only[Except.error.injEq] at h
   omega
 ·have e:exi cl ags ls 10 a ni st l nx=(match bin 10 (st.getD 1 0) (st.getD 0 0) with|some (z,E)=>if E=0 then .ok (z :: st.drop 2,nx) else .error 104|none=>.error 0):=rfl
  obtain⟨z,E,hb⟩:∃ z E,bin 10 (st.getD 1 0) (st.getD 0 0)=some (z,E):=⟨_,_,rfl⟩
  have hz:=V.vbin (zcA hB0 hst 1) (zcA hB0 hst 0) hb
  rw[e,hb]
  simp only
  split
  ·refine⟨fun st' nx' h=>?_,fun E h=>by cases h⟩
   simp only[Except.ok.injEq,Prod.mk.injEq] at h
   obtain⟨rfl,rfl⟩:=h
   exact⟨zbY hz (zcJ hst 2),by simp [tT,lT] at ht ⊢,hnx⟩
  ·refine⟨fun st' nx' h=>(by cases h),fun E h=>?_⟩
   simp only[Except.error.injEq] at h
   omega
 ·have e:exi cl ags ls 11 a ni st l nx=(match bin 11 (st.getD 1 0) (st.getD 0 0) with|some (z,E)=>if E=0 then .ok (z :: st.drop 2,nx) else .error 104|none=>.error 0):=rfl
  obtain⟨z,E,hb⟩:∃ z E,bin 11 (st.getD 1 0) (st.getD 0 0)=some (z,E):=⟨_,_,rfl⟩
  have hz:=V.vbin (zcA hB0 hst 1) (zcA hB0 hst 0) hb
  rw[e,hb]
  simp only
  split
  ·refine⟨fun st' nx' h=>?_,fun E h=>by cases h⟩
   simp only[Except.ok.injEq,Prod.mk.injEq] at h
   obtain⟨rfl,rfl⟩:=h
   exact⟨zbY hz (zcJ hst 2),by simp [tT,lT] at ht ⊢,hnx⟩
  ·refine⟨fun st' nx' h=>(by cases h),fun E h=>?_⟩
   simp only[Except.error.injEq] at h
   omega
 ·have e:exi cl ags ls 12 a ni st l nx=.ok ((if decide (st.getD 1 0=st.getD 0 0)=true then 1 else 0) :: st.drop 2,nx):=rfl
  rw[e]
  refine⟨fun st' nx' h=>?_,fun E h=>by cases h⟩
  simp only[Except.ok.injEq,Prod.mk.injEq] at h
  obtain⟨rfl,rfl⟩:=h
  exact⟨zbY (bit_lt hB1 _) (zcJ hst 2),by simp [tT,lT] at ht ⊢;try omega,hnx⟩
 ·have e:exi cl ags ls 13 a ni st l nx=.ok ((if decide (st.getD 0 0=0)=true then 1 else 0) :: st.drop 1,nx):=rfl
  rw[e]
  refine⟨fun st' nx' h=>?_,fun E h=>by cases h⟩
  simp only[Except.ok.injEq,Prod.mk.injEq] at h
  obtain⟨rfl,rfl⟩:=h
  exact⟨zbY (bit_lt hB1 _) (zcJ hst 1),by simp [tT,lT] at ht ⊢;try omega,hnx⟩
 ·have e:exi cl ags ls 14 a ni st l nx=.ok (st,stf ls ni-1):=rfl
  rw[e]
  refine⟨fun st' nx' h=>?_,fun E h=>by cases h⟩
  simp only[Except.ok.injEq,Prod.mk.injEq] at h
  obtain⟨rfl,rfl⟩:=h
  exact⟨hst,by simp [tT,lT] at ht ⊢;try omega,hsf⟩
 ·have e:exi cl ags ls 15 a ni st l nx=.ok (st.drop 1,if st.getD 0 0=0 then nx else stf ls ni-1):=rfl
  rw[e]
  refine⟨fun st' nx' h=>?_,fun E h=>by cases h⟩
  simp only[Except.ok.injEq,Prod.mk.injEq] at h
  obtain⟨rfl,rfl⟩:=h
  exact⟨zcJ hst 1,by simp [tT,lT] at ht ⊢;try omega,by split;exact hnx;exact hsf⟩
 ·have e:exi cl ags ls 16 a ni st l nx=.ok (ags.getD ni 0 :: st,nx):=rfl
  rw[e]
  refine⟨fun st' nx' h=>?_,fun E h=>by cases h⟩
  simp only[Except.ok.injEq,Prod.mk.injEq] at h
  obtain⟨rfl,rfl⟩:=h
  exact⟨zbY (zcA hB0 V.vag ni) hst,by simp [tT,lT] at ht ⊢;try omega,hnx⟩
 ·have e:exi cl ags ls 17 a ni st l nx=.ok (ags.length :: st,nx):=rfl
  rw[e]
  refine⟨fun st' nx' h=>?_,fun E h=>by cases h⟩
  simp only[Except.ok.injEq,Prod.mk.injEq] at h
  obtain⟨rfl,rfl⟩:=h
  exact⟨zbY (Nat.lt_of_le_of_lt V.al (Nat.lt_trans (by decide) V.one)) hst,by simp [tT,lT] at ht ⊢;try omega,hnx⟩
 ·have e:exi cl ags ls 18 a ni st l nx=.ok (nb cl.cr :: st,nx):=rfl
  rw[e]
  refine⟨fun st' nx' h=>?_,fun E h=>by cases h⟩
  simp only[Except.ok.injEq,Prod.mk.injEq] at h
  obtain⟨rfl,rfl⟩:=h
  exact⟨zbY (V.vnb _) hst,by simp [tT,lT] at ht ⊢;try omega,hnx⟩
 ·have e:exi cl ags ls 19 a ni st l nx=.ok (nb cl.sf :: st,nx):=rfl
  rw[e]
  refine⟨fun st' nx' h=>?_,fun E h=>by cases h⟩
  simp only[Except.ok.injEq,Prod.mk.injEq] at h
  obtain⟨rfl,rfl⟩:=h
  exact⟨zbY (V.vnb _) hst,by simp [tT,lT] at ht ⊢;try omega,hnx⟩
 ·have e:exi cl ags ls 20 a ni st l nx=.ok (cl.tok :: st,nx):=rfl
  rw[e]
  refine⟨fun st' nx' h=>?_,fun E h=>by cases h⟩
  simp only[Except.ok.injEq,Prod.mk.injEq] at h
  obtain⟨rfl,rfl⟩:=h
  exact⟨zbY (V.tok) hst,by simp [tT,lT] at ht ⊢;try omega,hnx⟩
 ·have e:exi cl ags ls 21 a ni st l nx=.ok (cl.amt :: st,nx):=rfl
  rw[e]
  refine⟨fun st' nx' h=>?_,fun E h=>by cases h⟩
  simp only[Except.ok.injEq,Prod.mk.injEq] at h
  obtain⟨rfl,rfl⟩:=h
  exact⟨zbY (V.amt) hst,by simp [tT,lT] at ht ⊢;try omega,hnx⟩
 ·have e:exi cl ags ls 22 a ni st l nx=.ok (cl.tm :: st,nx):=rfl
  rw[e]
  refine⟨fun st' nx' h=>?_,fun E h=>by cases h⟩
  simp only[Except.ok.injEq,Prod.mk.injEq] at h
  obtain⟨rfl,rfl⟩:=h
  exact⟨zbY (V.tm) hst,by simp [tT,lT] at ht ⊢;try omega,hnx⟩
 ·have e:exi cl ags ls 23 a ni st l nx=.ok (l :: st,nx):=rfl
  rw[e]
  refine⟨fun st' nx' h=>?_,fun E h=>by cases h⟩
  simp only[Except.ok.injEq,Prod.mk.injEq] at h
  obtain⟨rfl,rfl⟩:=h
  exact⟨zbY (Nat.lt_of_le_of_lt hl (Nat.lt_trans (by decide) V.one)) hst,by simp [tT,lT] at ht ⊢;try omega,hnx⟩
theorem rp_lt {B:Nat} (hB:0<B) {rs:List (Nat × Int)} (h:∀ p ∈ rs,p.1<B) (i:Nat):(rs.getD i (0,0)).1<B:=by
 rw[List.getD_eq_getElem?_getD]
 cases e:rs[i]? with
 |none=>exact hB
 |some v=>exact h v (List.mem_of_getElem? e)
theorem exh_inv {B:Nat} {cl:Cl} {ags:List Nat} {ls:List Ins} {rs:List (Nat × Int)} (V:zpW B cl ags ls rs) (c ni:Nat) (hc:c=24\/c=25\/c=26\/c=27) (st:List Nat) (hst:∀ a ∈ st,a<B) (ht:tT c ni<=st.length) (nx nq:Nat) (hnx:nx<=ls.length) :
 (∀ st' nx',(exh rs c st nx nq).1=.ok (st',nx')->(∀ u ∈ st',u<B)/\st'.length=st.length-tT c ni+lT c ni/\nx'<=ls.length)/\(∀ E,(exh rs c st nx nq).1=.error E->E≠0):=by
 have hB0:0<B:=Nat.lt_trans (by decide) V.one
 have hr:=rp_lt hB0 V.vrs nq
 obtain⟨v,E,hvE⟩:∃ v E,rs.getD nq (0,0)=(v,E):=⟨_,_,rfl⟩
 rw[hvE] at hr
 have done:∀ (st2:List Nat),(∀ u ∈ st2,u<B)->st2.length=st.length-tT c ni+lT c ni->(∀ st' nx',(if E=0 then Except.ok (st2,nx) else .error E:Except Int (List Nat × Nat))=.ok (st',nx')->(∀ u ∈ st',u<B)/\st'.length=st.length-tT c ni+lT c ni/\nx'<=ls.length)/\(∀ E',(if E=0 then Except.ok (st2,nx) else .error E:Except Int (List Nat × Nat))=.error E'->E'≠0):=fun st2 h1 h2=>by
  split
  ·refine⟨fun st' nx' h=>?_,fun E h=>by cases h⟩
   simp only[Except.ok.injEq,Prod.mk.injEq] at h
   obtain⟨rfl,rfl⟩:=h
   exact⟨h1,h2,hnx⟩
  ·rename_i hE
   refine⟨fun st' nx' h=>(by cases h),fun E' h=>?_⟩
   simp only[Except.error.injEq] at h
   rw[<-h]
   exact hE
 have no:(∀ st' nx',(Except.error 104:Except Int (List Nat × Nat))=.ok (st',nx')->(∀ u ∈ st',u<B)/\st'.length=st.length-tT c ni+lT c ni/\nx'<=ls.length)/\(∀ E',(Except.error 104:Except Int (List Nat × Nat))=.error E'->E'≠0):=⟨fun st' nx' h=>(by cases h),fun E' h=>by simp only[Except.error.injEq] at h;omega⟩
 unfold exh
 rw[hvE]
 rcases hc with rfl|rfl|rfl|rfl
 ·rw[if_pos rfl]
  exact done _ (zbY hr (zcJ hst 1)) (by simp [tT,lT] at ht ⊢)
 ·rw[if_neg (by decide),if_pos rfl]
  exact done _ (zcJ hst 2) (by simp [tT,lT] at ht ⊢)
 ·rw[if_neg (by decide),if_neg (by decide),if_pos rfl]
  split
  ·exact done _ (zbY hr (zcJ hst 2)) (by simp [tT,lT] at ht ⊢)
  ·exact no
 ·rw[if_neg (by decide),if_neg (by decide),if_neg (by decide)]
  split
  ·exact done _ (zcJ hst 3) (by simp [tT,lT] at ht ⊢)
  ·exact no
theorem stU_inv {B:Nat} {cl:Cl} {ags:List Nat} {ls:List Ins} {rs:List (Nat × Int)} (V:zpW B cl ags ls rs) (x:Ins) (hx:x ∈ ls) (hc:x.c<28) (st:List Nat) (hst:∀ a ∈ st,a<B) (l nx nq:Nat) (hl:l<=10000) (hnx:nx+1<=ls.length) :
 (∀ st' nx',(stU cl ags ls rs x st l nx nq).1=.ok (st',nx')->(∀ u ∈ st',u<B)/\st'.length<=64/\nx'<=ls.length)/\(∀ E,(stU cl ags ls rs x st l nx nq).1=.error E->E≠0):=by
 unfold stU
 split
 ·exact⟨fun st' nx' h=>(by cases h),fun E' h=>by simp only[Except.error.injEq] at h;omega⟩
 split
 ·exact⟨fun st' nx' h=>(by cases h),fun E' h=>by simp only[Except.error.injEq] at h;omega⟩
 rename_i h1 h2
 have ht:tT x.c x.n<=st.length:=by omega
 have hm:st.length-tT x.c x.n+lT x.c x.n<=64:=by omega
 split
 ·rename_i h3
  refine⟨fun st' nx' h=>?_,fun E' h=>(by cases h)⟩
  simp only[Except.ok.injEq,Prod.mk.injEq] at h
  obtain⟨rfl,rfl⟩:=h
  refine⟨zcJ hst 1,?_,hnx⟩
  rw[h3] at hm ht
  simp [tT,lT] at hm ht ⊢
  omega
 rename_i h3
 split
 ·rename_i h4
  have q:=exi_inv V x.c x.a x.n (V.vls x hx) (V.jmp x hx) h4 h3 st hst ht (l-gT x.c) (nx+1) (by omega) hnx
  refine⟨fun st' nx' h=>?_,q.2⟩
  have:=q.1 st' nx' h
  exact⟨this.1,by rw[this.2.1];exact hm,this.2.2⟩
 rename_i h4
 have q:=exh_inv V x.c x.n (by omega) st hst ht (nx+1) nq hnx
 refine⟨fun st' nx' h=>?_,q.2⟩
 have:=q.1 st' nx' h
 exact⟨this.1,by rw[this.2.1];exact hm,this.2.2⟩
def NxP (w:World) (hb:Nat) (rv qv iv:Value) (rs:List (Nat × Int)) (qs:List (List Value)) (inn:List (BitVec 8)) (q:List Value) (w':World):Prop:=∃ qv',Hst w' hb rv qv' iv rs (qs++[q]) inn/\Gro (Hq hb qv) w w'/\(∀ g,qv'.ownBlock=some g->qv.ownBlock=some g\/w.heap.size<=g)
def zcN (inn:List (BitVec 8)):Prop:=∀ (hb:Nat) (rv qv iv:Value) (rs:List (Nat × Int)) (qs:List (List Value)) (q:List Value),q.length=30->(∀ v ∈ q,v.oneCell'=true)->qs.length<=1000->∀ w,Hst w hb rv qv iv rs qs inn->Calls Tryz.prog 132 #[.pointer (some ⟨hb,0,none⟩),.agg q.toArray] w fun e w'=>e=.returned (.tuple #[.agg (wq (rs.getD qs.length (0,0)).1).toArray,.int .i64 (rs.getD qs.length (0,0)).2])/\NxP w hb rv qv iv rs qs inn q w'
theorem zjK:zcN []:=fun hb rv qv iv rs qs q h1 h2 h3 w H=>by
 refine Calls.mono (zyW hb rv qv iv rs qs q h1 h2 h3 w H) ?_
 rintro e w' ⟨qv',q1,q2⟩
 exact⟨q1,qv',q2⟩
section
variable {w X Y:World} {hb:Nat} {rv qv iv:Value} {rs:List (Nat × Int)} {qs:List (List Value)} {inn:List (BitVec 8)} {q:List Value}
theorem NxP.of (k:Below w.heap.size w X) (h:NxP X hb rv qv iv rs qs inn q Y):NxP w hb rv qv iv rs qs inn q Y:=by
 obtain⟨qv',h1,h2,h3⟩:=h
 exact⟨qv',h1,(Gro.of_below k).trans h2,fun g e=>(h3 g e).imp id (fun z=>Nat.le_trans k.size z)⟩
theorem NxP.be (h:NxP w hb rv qv iv rs qs inn q X) (k:Below X.heap.size X Y):NxP w hb rv qv iv rs qs inn q Y:=by
 obtain⟨qv',h1,h2,h3⟩:=h
 exact⟨qv',h1.below k,h2.below k,h3⟩
theorem NxP.own (h:NxP w hb rv qv iv rs qs inn q X) {b:Nat} {cs:List Value} (k:Gro (·=b) X Y) (r:Row X b cs 27) (hl:w.heap.size<=b) (hlb:hb<w.heap.size):NxP w hb rv qv iv rs qs inn q Y:=by
 obtain⟨qv',h1,h2,h3⟩:=h
 have kh:Kh hb X Y:=⟨fun bb cs t ht rr=>k.row rr (fun e=>by
  have hne:t≠27:=by rcases ht with h|h|h|h <;> rw[h] <;> decide
  exact zaN rr r hne e),fun bb h1 h2=>k.block bb h2 (fun e=>by omega)⟩
 exact⟨qv',h1.kh kh,h2.then k (fun g e=>.inr (by rw[e];exact hl)),h3⟩
theorem NxP.row (h:NxP w hb rv qv iv rs qs inn q X) (H:Hst w hb rv qv iv rs qs inn) {b:Nat} {cs:List Value} {t:TypeId} (h1:t≠tHo) (h2:t≠tAk) (r:Row w b cs t):Row X b cs t:=by
 obtain⟨qv',_,k,_⟩:=h
 refine k.row r fun e=>?_
 rcases e with e|e
 ·exact zaN r H.row h1 e
 ·exact Lw.ne H.own r h2 b e rfl
end
section
variable {ops:Array Oper} {rest:List Oper} {op:Oper} {a:Act} {w:World} {Q:Exit->Act->World->Prop}
theorem zbU (hgd:op.guard=none) (ty:TypeId) (parts:Array (Nat × Operand)) (ho:op.op=.build ty parts) (vals:List (Nat × Value)) (hv:(parts.toList.map fun (p:Nat × Operand)=>match p with|(i,x)=>(i,a.eval x))=vals) (L:List Value) (hr:Tryz.prog.built ty vals=some L.toArray) (h:wpList Tryz.prog ops Q rest (a.put op.dst (.agg L.toArray)) w):wpList Tryz.prog ops Q (op :: rest) a w:=by
 have hr:=run_build (P:=Tryz.prog) w ty vals.toArray _ hr
 have hv2:(parts.map fun (p:Nat × Operand)=>match p with|(i,x)=>(i,a.eval x))=vals.toArray:=by
  apply Array.toList_inj.1
  rw[Array.toList_map]
  exact hv
 refine wpList_plain hgd fun K hK=>?_
 unfold Oper.wp execOp
 simp only[ho,hv2,Sem.run_bind,hr,Result.andThen_ok,Sem.run_pure,Oper.upon_value]
 exact hK _ _ h
end
theorem len20 {l:List Value} (h:l.length=20):∃ u0 u1 u2 u3 u4 u5 u6 u7 u8 u9 u10 u11 u12 u13 u14 u15 u16 u17 u18 u19,l=[u0,u1,u2,u3,u4,u5,u6,u7,u8,u9,u10,u11,u12,u13,u14,u15,u16,u17,u18,u19]:=by
 match l,h with
 |[u0,u1,u2,u3,u4,u5,u6,u7,u8,u9,u10,u11,u12,u13,u14,u15,u16,u17,u18,u19],_=>exact⟨_,_,_,_,_,_,_,_,_,_,_,_,_,_,_,_,_,_,_,_,rfl⟩
theorem zoB (x:Nat):Tryz.prog.built tAk [(0,.int .i64 1),(1,.agg (wq x).toArray)]=some (aq 1 x 0 0 z20).toArray:=by kernel_rfl
theorem zwF (x y:Nat):Tryz.prog.built tAk [(0,.int .i64 2),(1,.agg (wq x).toArray),(2,.agg (wq y).toArray)]=some (aq 2 x y 0 z20).toArray:=by kernel_rfl
theorem zoA (t:Nat) (who:List Value) (h:who.length=20):Tryz.prog.built tAk [(0,.int .i64 3),(3,.int .i64 (t:Int)),(4,.agg who.toArray)]=some (aq 3 0 0 t who).toArray:=by
 obtain⟨u0,u1,u2,u3,u4,u5,u6,u7,u8,u9,u10,u11,u12,u13,u14,u15,u16,u17,u18,u19,rfl⟩:=len20 h
 kernel_rfl
theorem zwE (t x:Nat) (who:List Value) (h:who.length=20):Tryz.prog.built tAk [(0,.int .i64 4),(3,.int .i64 (t:Int)),(4,.agg who.toArray),(1,.agg (wq x).toArray)]=some (aq 4 x 0 t who).toArray:=by
 obtain⟨u0,u1,u2,u3,u4,u5,u6,u7,u8,u9,u10,u11,u12,u13,u14,u15,u16,u17,u18,u19,rfl⟩:=len20 h
 kernel_rfl
theorem znZ (k a b t:Nat) (who:List Value) (h:∀ v ∈ who,v.oneCell'=true):∀ v ∈ aq k a b t who,v.oneCell'=true:=fun v hv=>by
 unfold aq at hv
 rcases List.mem_cons.1 hv with rfl|hv
 ·rfl
 rcases List.mem_append.1 hv with hv|hv
 ·exact zmL a v hv
 rcases List.mem_append.1 hv with hv|hv
 ·exact zmL b v hv
 rcases List.mem_cons.1 hv with rfl|hv
 ·rfl
 ·exact h v hv
theorem zvP:∀ v ∈ z20,v.oneCell'=true:=fun v hv=>by
 obtain rfl:=List.eq_of_mem_replicate hv
 rfl
theorem zrG (x:Nat):∀ v ∈ adr x,v.oneCell'=true:=fun v hv=>vU_one _ v (List.mem_of_mem_drop hv)
theorem load_n {inn:List (BitVec 8)} (HN:zcN inn) (hb:Nat) (rv qv iv:Value) (rs:List (Nat × Int)) (qs:List (List Value)) (x:Nat) (hn:qs.length<=1000) (w:World) (H:Hst w hb rv qv iv rs qs inn):Calls Tryz.prog 129 #[.pointer (some ⟨hb,0,none⟩),.agg (wq x).toArray] w fun e w'=>e=.returned (.tuple #[.agg (wq (rs.getD qs.length (0,0)).1).toArray,.int .i64 (rs.getD qs.length (0,0)).2])/\NxP w hb rv qv iv rs qs inn (aq 1 x 0 0 z20) w':=by
 obtain⟨LX,hLX⟩:∃ L,L=wq x:=⟨_,rfl⟩
 have HIX:Hid ((Tryz.prog.info? 27).map (·.size)=some LX.length):=by rw[hLX];exact zaU _
 rw[<-hLX]
 obtain⟨q,hq⟩:∃ q,q=aq 1 x 0 0 z20:=⟨_,rfl⟩
 obtain⟨rp,hrp⟩:∃ p,p=rs.getD qs.length (0,0):=⟨_,rfl⟩
 obtain⟨LV,hLV⟩:∃ L,L=wq rp.1:=⟨_,rfl⟩
 obtain⟨E,hE⟩:∃ E,E=rp.2:=⟨_,rfl⟩
 have HLI:Hid ((Tryz.prog.info? 27).map (·.size)=some LV.length/\LV.length=zW.length/\LV.toArray.all (·.oneCell')=true):=by rw[hLV];exact⟨zaU _,zaV _,zbH _⟩
 have HNX:Hid (∀ X,Below w.heap.size w X->Calls Tryz.prog 132 #[.pointer (some ⟨hb,0,none⟩),.agg q.toArray] X fun e w'=>e=.returned (.tuple #[.agg LV.toArray,.int .i64 E])/\NxP X hb rv qv iv rs qs inn q w'):=fun X k=>by
  rw[hLV,hE,hrp]
  exact HN hb rv qv iv rs qs q (by rw[hq];exact zeH _ _ _ _ _ (by simp)) (by rw[hq];exact znZ _ _ _ _ _ zvP) hn X (H.below k)
 have HBU:Hid (Tryz.prog.built tAk [(0,.int .i64 1),(1,.agg LX.toArray)]=some q.toArray):=by show _=_;rw[hq];rw[hLX];exact zoB x
 have HHO:Hid (Hst w hb rv qv iv rs qs inn):=H
 rw[<-hrp,<-hE,<-hq]
 rw[<-hLV]
 clear HN H hn hrp hE hq hLV
 go_enter Tryz.func129,Tryz.ntmps129
 go_upto_region 1 with (first
  |(refine zaF 27 rfl (.tmp 1) rfl LX rfl ?_;intro X1 (R1:Hid (Row X1 w.heap.size LX 27)) (B1:Hid (Below w.heap.size w X1)) q3;clear q3;simp only[Act.put,jA,jB,jC])
  |(refine zaK rfl rfl ?_;intro X2 (R2:Hid (Row X2 X1.heap.size zW 27)) (B2:Hid (Below X1.heap.size X1 X2)) q3;clear q3;simp only[Act.put,jA,jB,jC]))
 obtain⟨b1,hb1⟩:∃ b,b=w.heap.size:=⟨_,rfl⟩
 obtain⟨b2,hb2⟩:∃ b,b=X1.heap.size:=⟨_,rfl⟩
 have C1:Hid (Below w.heap.size w X1):=B1.out
 have C2:Hid (Below w.heap.size w X2):=C1.out.trans (B2.out.mono C1.out.size)
 have S1:Hid (Row X2 b1 LX 27):=by rw[hb1];exact Row.below (R1.out) B2.out (R1.out).lt
 have M1:Hid (w.heap.size<=b1):=by show _<=_;rw[hb1];exact Nat.le_refl _
 have S2:Hid (Row X2 b2 zW 27):=by rw[hb2];exact R2.out
 have M2:Hid (w.heap.size<=b2):=by show _<=_;rw[hb2];exact C1.out.size
 have HC:Hid _:=HNX.out X2 C2.out
 rw[<-hb1,<-hb2]
 clear hb1 R1 B1 hb2 R2 B2 HNX
 go_wp2_with (first
  |(refine zaG rfl 27 (.tmp 3) rfl b1 0 rfl LX _ S1.out.all Tryz.underlying27 rfl HIX.out ?_;simp only[Act.put,jA,jB,jC])
  |(refine zbU rfl tAk _ rfl [(0,.int .i64 1),(1,.agg LX.toArray)] (rfl) q HBU.out ?_;simp only[Act.put,jA,jB,jC])
  |(go_at_call 132;refine Calls.mono HC.out ?_;rintro e Y ⟨rfl,p⟩;have HP:Hid (NxP w hb rv qv iv rs qs inn q Y):=p.of C2.out;have Z2:Hid (Row Y b2 zW 27):=p.row (HHO.out.below C2.out) (by decide) (by decide) S2.out;clear p)
  |(refine zaD rfl 27 (.tmp 4) (.tmp 10) rfl b2 LV zW 27 rfl rfl Z2.out HLI.out.2.1 HLI.out.1 HLI.out.2.2 ?_;intro Y2 (E2:Hid (Y2=_)) (R9:Hid (Row Y2 b2 LV 27));simp only[Act.put]))
 exact bodyPost_ret (zaM Tryz.results129 _ _ b2 27 LV (.int .i64 E) rfl rfl R9.out Tryz.underlying27 zaL HLI.out.2.1) rfl ⟨rfl,by rw[E2.out];exact HP.out.own (zbB b2 _ 0 Y Y (Gro.refl _ Y)) Z2.out M2.out HHO.out.row.lt⟩
theorem save_n {inn:List (BitVec 8)} (HN:zcN inn) (hb:Nat) (rv qv iv:Value) (rs:List (Nat × Int)) (qs:List (List Value)) (x y:Nat) (hn:qs.length<=1000) (w:World) (H:Hst w hb rv qv iv rs qs inn):Calls Tryz.prog 130 #[.pointer (some ⟨hb,0,none⟩),.agg (wq x).toArray,.agg (wq y).toArray] w fun e w'=>e=.returned (.int .i64 (rs.getD qs.length (0,0)).2)/\NxP w hb rv qv iv rs qs inn (aq 2 x y 0 z20) w':=by
 obtain⟨LX,hLX⟩:∃ L,L=wq x:=⟨_,rfl⟩
 have HIX:Hid ((Tryz.prog.info? 27).map (·.size)=some LX.length):=by rw[hLX];exact zaU _
 rw[<-hLX]
 obtain⟨LY,hLY⟩:∃ L,L=wq y:=⟨_,rfl⟩
 have HIY:Hid ((Tryz.prog.info? 27).map (·.size)=some LY.length):=by rw[hLY];exact zaU _
 rw[<-hLY]
 obtain⟨q,hq⟩:∃ q,q=aq 2 x y 0 z20:=⟨_,rfl⟩
 obtain⟨rp,hrp⟩:∃ p,p=rs.getD qs.length (0,0):=⟨_,rfl⟩
 obtain⟨LV,hLV⟩:∃ L,L=wq rp.1:=⟨_,rfl⟩
 obtain⟨E,hE⟩:∃ E,E=rp.2:=⟨_,rfl⟩
 have HLI:Hid ((Tryz.prog.info? 27).map (·.size)=some LV.length/\LV.length=zW.length/\LV.toArray.all (·.oneCell')=true):=by rw[hLV];exact⟨zaU _,zaV _,zbH _⟩
 have HNX:Hid (∀ X,Below w.heap.size w X->Calls Tryz.prog 132 #[.pointer (some ⟨hb,0,none⟩),.agg q.toArray] X fun e w'=>e=.returned (.tuple #[.agg LV.toArray,.int .i64 E])/\NxP X hb rv qv iv rs qs inn q w'):=fun X k=>by
  rw[hLV,hE,hrp]
  exact HN hb rv qv iv rs qs q (by rw[hq];exact zeH _ _ _ _ _ (by simp)) (by rw[hq];exact znZ _ _ _ _ _ zvP) hn X (H.below k)
 have HBU:Hid (Tryz.prog.built tAk [(0,.int .i64 2),(1,.agg LX.toArray),(2,.agg LY.toArray)]=some q.toArray):=by show _=_;rw[hq];rw[hLX,hLY];exact zwF x y
 have HHO:Hid (Hst w hb rv qv iv rs qs inn):=H
 rw[<-hrp,<-hE,<-hq]
 clear HN H hn hrp hE hq hLV
 go_enter Tryz.func130,Tryz.ntmps130
 go_upto_region 1 with (first
  |(refine zaF 27 rfl (.tmp 1) rfl LX rfl ?_;intro X1 (R1:Hid (Row X1 w.heap.size LX 27)) (B1:Hid (Below w.heap.size w X1)) q3;clear q3;simp only[Act.put,jA,jB,jC])
  |(refine zaF 27 rfl (.tmp 2) rfl LY rfl ?_;intro X2 (R2:Hid (Row X2 X1.heap.size LY 27)) (B2:Hid (Below X1.heap.size X1 X2)) q3;clear q3;simp only[Act.put,jA,jB,jC]))
 obtain⟨b1,hb1⟩:∃ b,b=w.heap.size:=⟨_,rfl⟩
 obtain⟨b2,hb2⟩:∃ b,b=X1.heap.size:=⟨_,rfl⟩
 have C1:Hid (Below w.heap.size w X1):=B1.out
 have C2:Hid (Below w.heap.size w X2):=C1.out.trans (B2.out.mono C1.out.size)
 have S1:Hid (Row X2 b1 LX 27):=by rw[hb1];exact Row.below (R1.out) B2.out (R1.out).lt
 have M1:Hid (w.heap.size<=b1):=by show _<=_;rw[hb1];exact Nat.le_refl _
 have S2:Hid (Row X2 b2 LY 27):=by rw[hb2];exact R2.out
 have M2:Hid (w.heap.size<=b2):=by show _<=_;rw[hb2];exact C1.out.size
 have HC:Hid _:=HNX.out X2 C2.out
 rw[<-hb1,<-hb2]
 clear hb1 R1 B1 hb2 R2 B2 HNX
 go_wp2_with (first
  |(refine zaG rfl 27 (.tmp 4) rfl b1 0 rfl LX _ S1.out.all Tryz.underlying27 rfl HIX.out ?_;simp only[Act.put,jA,jB,jC])
  |(refine zaG rfl 27 (.tmp 5) rfl b2 0 rfl LY _ S2.out.all Tryz.underlying27 rfl HIY.out ?_;simp only[Act.put,jA,jB,jC])
  |(refine zbU rfl tAk _ rfl [(0,.int .i64 2),(1,.agg LX.toArray),(2,.agg LY.toArray)] (rfl) q HBU.out ?_;simp only[Act.put,jA,jB,jC])
  |(go_at_call 132;refine Calls.mono HC.out ?_;rintro e Y ⟨rfl,p⟩;have HP:Hid (NxP w hb rv qv iv rs qs inn q Y):=p.of C2.out;clear p)
  |(refine zaK rfl rfl ?_;intro Y1 (R8:Hid (Row Y1 Y.heap.size zW 27)) (B8:Hid (Below Y.heap.size Y Y1)) q3;clear q3;simp only[Act.put,jA,jB,jC])
  |(refine zaD rfl 27 (.tmp 7) (.tmp 15) rfl Y.heap.size LV zW 27 rfl rfl R8.out HLI.out.2.1 HLI.out.1 HLI.out.2.2 ?_;intro Y2 (E2:Hid (Y2=_)) q2;clear q2;simp only[Act.put]))
 have HB8:Below Y.heap.size Y Y2:=by rw[E2.out];exact zaC B8.out (Nat.le_refl _) _
 have HF:Hid (NxP w hb rv qv iv rs qs inn q Y2):=HP.out.be HB8
 clear HB8 E2 R8 B8 HP
 go_ret
 exact⟨rfl,HF.out⟩
theorem have_n {inn:List (BitVec 8)} (HN:zcN inn) (hb:Nat) (rv qv iv:Value) (rs:List (Nat × Int)) (qs:List (List Value)) (t:Nat) (who:List Value) (hw:who.length=20) (hwo:∀ v ∈ who,v.oneCell'=true) (hn:qs.length<=1000) (w:World) (H:Hst w hb rv qv iv rs qs inn):Calls Tryz.prog 128 #[.pointer (some ⟨hb,0,none⟩),.int .i64 (t:Int),.agg who.toArray] w fun e w'=>e=.returned (.tuple #[.agg (wq (rs.getD qs.length (0,0)).1).toArray,.int .i64 (rs.getD qs.length (0,0)).2])/\NxP w hb rv qv iv rs qs inn (aq 3 0 0 t who) w':=by
 have HIA:Hid ((Tryz.prog.info? 24).map (·.size)=some who.length):=by show _=_;rw[hw];kernel_rfl
 obtain⟨q,hq⟩:∃ q,q=aq 3 0 0 t who:=⟨_,rfl⟩
 obtain⟨rp,hrp⟩:∃ p,p=rs.getD qs.length (0,0):=⟨_,rfl⟩
 obtain⟨LV,hLV⟩:∃ L,L=wq rp.1:=⟨_,rfl⟩
 obtain⟨E,hE⟩:∃ E,E=rp.2:=⟨_,rfl⟩
 have HLI:Hid ((Tryz.prog.info? 27).map (·.size)=some LV.length/\LV.length=zW.length/\LV.toArray.all (·.oneCell')=true):=by rw[hLV];exact⟨zaU _,zaV _,zbH _⟩
 have HNX:Hid (∀ X,Below w.heap.size w X->Calls Tryz.prog 132 #[.pointer (some ⟨hb,0,none⟩),.agg q.toArray] X fun e w'=>e=.returned (.tuple #[.agg LV.toArray,.int .i64 E])/\NxP X hb rv qv iv rs qs inn q w'):=fun X k=>by
  rw[hLV,hE,hrp]
  exact HN hb rv qv iv rs qs q (by rw[hq];exact zeH _ _ _ _ _ hw) (by rw[hq];exact znZ _ _ _ _ _ hwo) hn X (H.below k)
 have HBU:Hid (Tryz.prog.built tAk [(0,.int .i64 3),(3,.int .i64 (t:Int)),(4,.agg who.toArray)]=some q.toArray):=by show _=_;rw[hq];exact zoA t who hw
 have HHO:Hid (Hst w hb rv qv iv rs qs inn):=H
 rw[<-hrp,<-hE,<-hq]
 rw[<-hLV]
 clear HN H hn hrp hE hq hLV
 go_enter Tryz.func128,Tryz.ntmps128
 go_upto_region 1 with (first
  |(refine zaF 24 rfl (.tmp 2) rfl who rfl ?_;intro X1 (R1:Hid (Row X1 w.heap.size who 24)) (B1:Hid (Below w.heap.size w X1)) q3;clear q3;simp only[Act.put,jA,jB,jC])
  |(refine zaK rfl rfl ?_;intro X2 (R2:Hid (Row X2 X1.heap.size zW 27)) (B2:Hid (Below X1.heap.size X1 X2)) q3;clear q3;simp only[Act.put,jA,jB,jC]))
 obtain⟨b1,hb1⟩:∃ b,b=w.heap.size:=⟨_,rfl⟩
 obtain⟨b2,hb2⟩:∃ b,b=X1.heap.size:=⟨_,rfl⟩
 have C1:Hid (Below w.heap.size w X1):=B1.out
 have C2:Hid (Below w.heap.size w X2):=C1.out.trans (B2.out.mono C1.out.size)
 have S1:Hid (Row X2 b1 who 24):=by rw[hb1];exact Row.below (R1.out) B2.out (R1.out).lt
 have M1:Hid (w.heap.size<=b1):=by show _<=_;rw[hb1];exact Nat.le_refl _
 have S2:Hid (Row X2 b2 zW 27):=by rw[hb2];exact R2.out
 have M2:Hid (w.heap.size<=b2):=by show _<=_;rw[hb2];exact C1.out.size
 have HC:Hid _:=HNX.out X2 C2.out
 rw[<-hb1,<-hb2]
 clear hb1 R1 B1 hb2 R2 B2 HNX
 go_wp2_with (first
  |(refine zaG rfl 24 (.tmp 5) rfl b1 0 rfl who _ S1.out.all Tryz.underlying24 rfl HIA.out ?_;simp only[Act.put,jA,jB,jC])
  |(refine zbU rfl tAk _ rfl [(0,.int .i64 3),(3,.int .i64 (t:Int)),(4,.agg who.toArray)] (rfl) q HBU.out ?_;simp only[Act.put,jA,jB,jC])
  |(go_at_call 132;refine Calls.mono HC.out ?_;rintro e Y ⟨rfl,p⟩;have HP:Hid (NxP w hb rv qv iv rs qs inn q Y):=p.of C2.out;have Z2:Hid (Row Y b2 zW 27):=p.row (HHO.out.below C2.out) (by decide) (by decide) S2.out;clear p)
  |(refine zaD rfl 27 (.tmp 6) (.tmp 13) rfl b2 LV zW 27 rfl rfl Z2.out HLI.out.2.1 HLI.out.1 HLI.out.2.2 ?_;intro Y2 (E2:Hid (Y2=_)) (R9:Hid (Row Y2 b2 LV 27));simp only[Act.put]))
 exact bodyPost_ret (zaM Tryz.results128 _ _ b2 27 LV (.int .i64 E) rfl rfl R9.out Tryz.underlying27 zaL HLI.out.2.1) rfl ⟨rfl,by rw[E2.out];exact HP.out.own (zbB b2 _ 0 Y Y (Gro.refl _ Y)) Z2.out M2.out HHO.out.row.lt⟩
theorem send_n {inn:List (BitVec 8)} (HN:zcN inn) (hb:Nat) (rv qv iv:Value) (rs:List (Nat × Int)) (qs:List (List Value)) (t x:Nat) (who:List Value) (hw:who.length=20) (hwo:∀ v ∈ who,v.oneCell'=true) (hn:qs.length<=1000) (w:World) (H:Hst w hb rv qv iv rs qs inn):Calls Tryz.prog 131 #[.pointer (some ⟨hb,0,none⟩),.int .i64 (t:Int),.agg who.toArray,.agg (wq x).toArray] w fun e w'=>e=.returned (.int .i64 (rs.getD qs.length (0,0)).2)/\NxP w hb rv qv iv rs qs inn (aq 4 x 0 t who) w':=by
 obtain⟨LX,hLX⟩:∃ L,L=wq x:=⟨_,rfl⟩
 have HIX:Hid ((Tryz.prog.info? 27).map (·.size)=some LX.length):=by rw[hLX];exact zaU _
 rw[<-hLX]
 have HIA:Hid ((Tryz.prog.info? 24).map (·.size)=some who.length):=by show _=_;rw[hw];kernel_rfl
 obtain⟨q,hq⟩:∃ q,q=aq 4 x 0 t who:=⟨_,rfl⟩
 obtain⟨rp,hrp⟩:∃ p,p=rs.getD qs.length (0,0):=⟨_,rfl⟩
 obtain⟨LV,hLV⟩:∃ L,L=wq rp.1:=⟨_,rfl⟩
 obtain⟨E,hE⟩:∃ E,E=rp.2:=⟨_,rfl⟩
 have HLI:Hid ((Tryz.prog.info? 27).map (·.size)=some LV.length/\LV.length=zW.length/\LV.toArray.all (·.oneCell')=true):=by rw[hLV];exact⟨zaU _,zaV _,zbH _⟩
 have HNX:Hid (∀ X,Below w.heap.size w X->Calls Tryz.prog 132 #[.pointer (some ⟨hb,0,none⟩),.agg q.toArray] X fun e w'=>e=.returned (.tuple #[.agg LV.toArray,.int .i64 E])/\NxP X hb rv qv iv rs qs inn q w'):=fun X k=>by
  rw[hLV,hE,hrp]
  exact HN hb rv qv iv rs qs q (by rw[hq];exact zeH _ _ _ _ _ hw) (by rw[hq];exact znZ _ _ _ _ _ hwo) hn X (H.below k)
 have HBU:Hid (Tryz.prog.built tAk [(0,.int .i64 4),(3,.int .i64 (t:Int)),(4,.agg who.toArray),(1,.agg LX.toArray)]=some q.toArray):=by show _=_;rw[hq];rw[hLX];exact zwE t x who hw
 have HHO:Hid (Hst w hb rv qv iv rs qs inn):=H
 rw[<-hrp,<-hE,<-hq]
 clear HN H hn hrp hE hq hLV
 go_enter Tryz.func131,Tryz.ntmps131
 go_upto_region 1 with (first
  |(refine zaF 24 rfl (.tmp 2) rfl who rfl ?_;intro X1 (R1:Hid (Row X1 w.heap.size who 24)) (B1:Hid (Below w.heap.size w X1)) q3;clear q3;simp only[Act.put,jA,jB,jC])
  |(refine zaF 27 rfl (.tmp 3) rfl LX rfl ?_;intro X2 (R2:Hid (Row X2 X1.heap.size LX 27)) (B2:Hid (Below X1.heap.size X1 X2)) q3;clear q3;simp only[Act.put,jA,jB,jC]))
 obtain⟨b1,hb1⟩:∃ b,b=w.heap.size:=⟨_,rfl⟩
 obtain⟨b2,hb2⟩:∃ b,b=X1.heap.size:=⟨_,rfl⟩
 have C1:Hid (Below w.heap.size w X1):=B1.out
 have C2:Hid (Below w.heap.size w X2):=C1.out.trans (B2.out.mono C1.out.size)
 have S1:Hid (Row X2 b1 who 24):=by rw[hb1];exact Row.below (R1.out) B2.out (R1.out).lt
 have M1:Hid (w.heap.size<=b1):=by show _<=_;rw[hb1];exact Nat.le_refl _
 have S2:Hid (Row X2 b2 LX 27):=by rw[hb2];exact R2.out
 have M2:Hid (w.heap.size<=b2):=by show _<=_;rw[hb2];exact C1.out.size
 have HC:Hid _:=HNX.out X2 C2.out
 rw[<-hb1,<-hb2]
 clear hb1 R1 B1 hb2 R2 B2 HNX
 go_wp2_with (first
  |(refine zaG rfl 24 (.tmp 6) rfl b1 0 rfl who _ S1.out.all Tryz.underlying24 rfl HIA.out ?_;simp only[Act.put,jA,jB,jC])
  |(refine zaG rfl 27 (.tmp 7) rfl b2 0 rfl LX _ S2.out.all Tryz.underlying27 rfl HIX.out ?_;simp only[Act.put,jA,jB,jC])
  |(refine zbU rfl tAk _ rfl [(0,.int .i64 4),(3,.int .i64 (t:Int)),(4,.agg who.toArray),(1,.agg LX.toArray)] (rfl) q HBU.out ?_;simp only[Act.put,jA,jB,jC])
  |(go_at_call 132;refine Calls.mono HC.out ?_;rintro e Y ⟨rfl,p⟩;have HP:Hid (NxP w hb rv qv iv rs qs inn q Y):=p.of C2.out;clear p)
  |(refine zaK rfl rfl ?_;intro Y1 (R8:Hid (Row Y1 Y.heap.size zW 27)) (B8:Hid (Below Y.heap.size Y Y1)) q3;clear q3;simp only[Act.put,jA,jB,jC])
  |(refine zaD rfl 27 (.tmp 9) (.tmp 18) rfl Y.heap.size LV zW 27 rfl rfl R8.out HLI.out.2.1 HLI.out.1 HLI.out.2.2 ?_;intro Y2 (E2:Hid (Y2=_)) q2;clear q2;simp only[Act.put]))
 have HB8:Below Y.heap.size Y Y2:=by rw[E2.out];exact zaC B8.out (Nat.le_refl _) _
 have HF:Hid (NxP w hb rv qv iv rs qs inn q Y2):=HP.out.be HB8
 clear HB8 E2 R8 B8 HP
 go_ret
 exact⟨rfl,HF.out⟩
end Go.Proofs.YtedeobikfddmgaaGreat
