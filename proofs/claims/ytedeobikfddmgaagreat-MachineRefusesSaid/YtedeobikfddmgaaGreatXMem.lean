import Derived.Test.YtedeobikfddmgaaGreatProg
import Derived.Test.YtedeobikfddmgaaGreatMem
import Derived.Maps.AppendAt
import Derived.Laws.OwnMore
import Derived.Lib.Hide
set_option maxRecDepth 100000
set_option maxHeartbeats 16000000
namespace Go.Proofs.YtedeobikfddmgaaGreat
open Go Go.RowKit
open Sha
theorem zqO:(Tryz.prog.info? 5).map (fun i=>(i.size,i.bytes))=some (1,1):=by kernel_rfl
theorem zmY:((Tryz.prog.info? 5).bind (·.zero)).map (·.cells.size)=some 1:=by kernel_rfl
theorem zfD:(Tryz.prog.info? 5).map (·.size)=some 1:=by kernel_rfl
theorem zeN:∃ ie z,Tryz.prog.info? 5=some ie/\ie.zero=some z/\ie.size=1/\ie.bytes=1/\z.cells.size=1:=by
 have i1:=zqO
 have i2:=zmY
 cases hi:Tryz.prog.info? 5 with
 |none=>rw[hi] at i1;cases i1
 |some ie=>
  rw[hi] at i1 i2
  cases hz:ie.zero with
  |none=>simp [hz] at i2
  |some z=>
   have i3:ie.size=1/\ie.bytes=1:=by simpa using i1
   exact⟨ie,z,rfl,hz,i3.1,i3.2,by simpa [hz] using i2⟩
def SlAt (w:World) (v:Value) (d:List (BitVec 8)):Prop:=
 (d=[]/\∃ A cap,v=.slice A 0 cap)\/∃ ab ao cap,v=.slice (some ⟨ab,ao,none⟩) d.length cap/\d.length<=cap/\w.rangeAt ab ao (vB d)
theorem zaS {w w':World} {c o:Nat} {cs:List Value} (h:w.rangeAt c o cs) (k:Below w.heap.size w w'):w'.rangeAt c o cs:=fun j v hv=>
 (k.cell (p:=⟨c,o+j,none⟩) (World.block_lt_of_cell? w _ (h j v hv))).trans (h j v hv)
theorem zhU {w w':World} {p:Addr} {v:Value} (h:w.cell? p=some v) (k:Below w.heap.size w w'):w'.cell? p=some v:=(k.cell (World.block_lt_of_cell? w _ h)).trans h
structure Gro (R:Nat->Prop) (w w':World):Prop where
 os:w'.os=w.os
 tape:w'.tape=w.tape
 output:w'.output=w.output
 size:w.heap.size<=w'.heap.size
 block:∀ k,k<w.heap.size->¬ R k->w'.heap[k]?=w.heap[k]?
section
variable {R:Nat->Prop} {a b c:World}
theorem Gro.refl (R:Nat->Prop) (w:World):Gro R w w:=⟨rfl,rfl,rfl,Nat.le_refl _,fun _ _ _=>rfl⟩
theorem Gro.trans (h:Gro R a b) (k:Gro R b c):Gro R a c:=
 ⟨k.os.trans h.os,k.tape.trans h.tape,k.output.trans h.output,Nat.le_trans h.size k.size,fun i hi hn=>(k.block i (Nat.lt_of_lt_of_le hi h.size) hn).trans (h.block i hi hn)⟩
theorem Gro.below (h:Gro R a b) (k:Below b.heap.size b c):Gro R a c:=
 ⟨k.os.trans h.os,k.tape.trans h.tape,k.output.trans h.output,Nat.le_trans h.size k.size,fun i hi hn=>(k.block i (Nat.lt_of_lt_of_le hi h.size)).trans (h.block i hi hn)⟩
theorem Gro.of_below (k:Below a.heap.size a c):Gro R a c:=(Gro.refl R a).below k
theorem Gro.mono {S:Nat->Prop} (h:Gro R a b) (k:∀ g,R g->S g):Gro S a b:=⟨h.os,h.tape,h.output,h.size,fun g hg hn=>h.block g hg (fun q=>hn (k g q))⟩
theorem Gro.then {S:Nat->Prop} (h:Gro R a b) (k:Gro S b c) (hS:∀ g,S g->R g\/a.heap.size<=g):Gro R a c:=
 ⟨k.os.trans h.os,k.tape.trans h.tape,k.output.trans h.output,Nat.le_trans h.size k.size,fun i hi hn=>(k.block i (Nat.lt_of_lt_of_le hi h.size) (fun q=>by
   rcases hS i q with q|q
   ·exact hn q
   ·omega)).trans (h.block i hi hn)⟩
theorem Gro.grown {row:Option Nat} (h:Gro R a b) (k:b.grownBy c row) (hr:∀ g,row=some g->R g\/a.heap.size<=g):Gro R a c:=
 ⟨k.os.trans h.os,k.tape.trans h.tape,k.output.trans h.output,Nat.le_trans h.size k.size,fun i hi hn=>(k.block i (Nat.lt_of_lt_of_le hi h.size) (fun e=>by
   rcases hr i e.symm with q|q
   ·exact hn q
   ·omega)).trans (h.block i hi hn)⟩
theorem Gro.set (h:Gro R a b) (g o:Nat) (v:Value) (hr:R g):Gro R a (b.setCell ⟨g,o,none⟩ v):=by
 have k:=(Below.refl 0 b).setCell (p:=⟨g,o,none⟩) (Nat.zero_le _) v
 exact⟨k.os.trans h.os,k.tape.trans h.tape,k.output.trans h.output,Nat.le_trans h.size k.size,fun i hi hn=>(Below.heap_setCell b ⟨g,o,none⟩ v i (fun e=>hn (e ▸ hr))).trans (h.block i hi hn)⟩
theorem Gro.to_below {N:Nat} (h:Gro R a b) (hN:N<=a.heap.size) (hR:∀ k,R k->N<=k):Below N a b:=
 ⟨h.os,h.tape,h.output,h.size,fun k hk=>h.block k (Nat.lt_of_lt_of_le hk hN) (fun q=>by have:=hR k q;omega)⟩
theorem Gro.row {g:Nat} {cs:List Value} {t:TypeId} (h:Gro R a b) (r:Row a g cs t) (hn:¬ R g):Row b g cs t:=(h.block g r.lt hn).trans r
end
abbrev Bw (w:World) (v:Value) (d:List (BitVec 8)):Prop:=w.ownsRow 0 5 1 v d.length (vB d)
def Fresh (N:Nat) (v:Value):Prop:=∀ g,v.ownBlock=some g->N<=g
section
variable {w w':World} {v:Value} {d:List (BitVec 8)}
theorem Bw.form (h:Bw w v d):∃ A cap,v=.slice A d.length cap/\d.length<=cap/\(A=none->cap=0):=by
 rcases h.2 with ⟨h1,h2⟩|⟨g,cap,cur,hv,_,_,hc,_⟩
 ·exact⟨none,0,by rw[h1,h2],by omega,fun _=>rfl⟩
 ·exact⟨_,cap,hv,hc,fun e=>by cases e⟩
theorem Bw.sl (h:Bw w v d):SlAt w v d:=by
 have h1:=h.1
 rcases h.2 with ⟨h2,h0⟩|⟨g,cap,cur,hv,hg,hh,hc,hm,hs,ht⟩
 ·exact .inl ⟨List.length_eq_zero_iff.1 h0,none,0,h2⟩
 ·refine .inr ⟨g,0,cap,hv,hc,?_⟩
  have hr:Row w g cur.toList 5:=by unfold Row;rw[hh]
  intro j u hj
  refine hr.all j u ?_
  rw[<-ht] at hj
  have hjl:j<d.length*1:=by have:=(List.getElem?_eq_some_iff.1 hj).1;rw[List.length_take] at this;omega
  rwa [List.getElem?_take_of_lt hjl] at hj
end
section
variable {Q:Exit->Act->World->Prop} {o:Oper} {a:Act} {w:World} {K:Act->World->Prop}
end
section
variable {ops:Array Oper} {rest:List Oper} {o:Oper} {a:Act} {w:World} {Q:Exit->Act->World->Prop}
end
end Go.Proofs.YtedeobikfddmgaaGreat
