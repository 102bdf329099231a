import Derived.Test.YtedeobikfddmgaaGreatMkGq
import Derived.Test.YtedeobikfddmgaaGreatMkFl
import Derived.Test.YtedeobikfddmgaaGreatMkZc
import Derived.Test.YtedeobikfddmgaaGreatMkFe
import Derived.Deep.Upon
set_option maxRecDepth 100000
set_option maxHeartbeats 16000000
namespace Go.Proofs.YtedeobikfddmgaaGreat
open Go Go.RowKit
open Sha
open Wd
theorem zmS:∃ i,Tryz.prog.info? 27=some i:=by
 obtain⟨ie,_,h,_⟩:=zbO
 exact⟨ie,h⟩
theorem zvN (r:Nat):∀ v ∈ wq r,v.oneCell'=true:=fun v hv=>by
 obtain⟨x,_,rfl⟩:=List.mem_map.1 hv
 rfl
theorem zrK {X:World} {gs:Nat} {o:Obj} (h:gs=X.heap.size\/(X.alloc o).heap.size<=gs):X.heap.size<=gs:=by
 rcases h with h|h
 ·omega
 ·simp at h
  omega
theorem sin_be {w X:World} {B s n c:Nat} {A:Option Addr} {xs:List Value} (h:Sin w s A n c xs) (k:Below B w X) (hB:B=w.heap.size:=by rfl):Sin X s A n c xs:=by
 subst hB
 exact h.be k
section
variable {ops:Array Oper} {rest:List Oper} {op:Oper} {a:Act} {w:World} {Q:Exit->Act->World->Prop}
theorem znT (hgd:op.guard=none) {x y:Operand} (ho:op.op=.indexAddr 28 x y) (g n c i:Nat) (hx:a.eval x=.slice (some ⟨g,0,none⟩) n c) (hy:a.eval y=.int .i64 (i:Int)) (hi:i<n) (h:wpList Tryz.prog ops Q rest (a.put op.dst (.pointer (some ⟨g,i*4,none⟩))) w):wpList Tryz.prog ops Q (op :: rest) a w:=
 wpList_plain hgd fun _ hK=>by
  have h1:¬ ((i:Int)<0):=by omega
  have h2:(i:Int)<(n:Int):=by omega
  unfold Oper.wp execOp
  simp only[ho,hx,hy]
  go_simp
  exact hK _ _ h
end
section
variable {w0:World} {b4 b6:Nat} {L:List Value} {w w':World} {sv:Value} {ss:List Nat} {qv:Value} {qs:List (List Value)}
theorem dr_base (H:Dr w0 b4 b6 L w sv ss qv qs) {gs k c:Nat} {bs:List Nat} (S:Lw w 27 4 (.slice (some ⟨gs,0,none⟩) k c) k (fw bs)) (hk:bs.length=k) (hg:w0.heap.size<=gs):Dr w0 b4 b6 L w (.slice (some ⟨gs,0,none⟩) k c) bs qv qs:=
 H.stack (by rw[hk];exact S) (fun g q=>by
  obtain rfl:gs=g:=by simpa [Value.ownBlock] using q
  exact hg)
theorem dr_push (H:Dr w0 b4 b6 L w sv ss qv qs) {gs k c r:Nat} {bs:List Nat} {v:Value} (G:w.grownBy w' (some gs)) (S0:Lw w 27 4 (.slice (some ⟨gs,0,none⟩) k c) k (fw bs)) (S:Lw w' 27 4 v (k+1) (fw bs++wq r)) (hk:bs.length=k) (ho:v.ownBlock=some gs\/v.ownBlock=some w.heap.size) (hg:w0.heap.size<=gs):Dr w0 b4 b6 L w' v (bs++[r]) qv qs:=by
 have n4:gs≠b4:=Lw.ne S0 H.r4 (by decide) gs rfl
 have n6:gs≠b6:=Lw.ne S0 H.r6 (by decide) gs rfl
 obtain⟨cur,hrow⟩:=Lw.row S0
 have na:∀ g,qv.ownBlock=some g->g≠gs:=Lw.ne H.aq hrow (by decide)
 refine⟨zdW H.be G (fun g e=>by cases e;exact hg),zeA H.r4 G (fun e=>n4 (Option.some.inj e).symm),zeA H.r6 G (fun e=>n6 (Option.some.inj e).symm),?_,?_,Lw.gb (u:=.slice (some ⟨gs,0,none⟩) 0 0) H.aq G (fun g e q=>na g e (Option.some.inj q)),H.ao⟩
 ·rw[List.length_append,hk,zsT]
  exact S
 ·intro g hv
  rcases ho with q|q
  ·rw[q] at hv
   cases hv
   exact hg
  ·rw[q] at hv
   cases hv
   exact H.be.size
theorem zyO {e e':TypeId} {s s' n n':Nat} {v v':Value} {xs xs':List Value} (h:Lw w e s v n xs) (h':Lw w e' s' v' n' xs') (hne:e≠e'):∀ g,v.ownBlock=some g->some g≠v'.ownBlock:=fun g hg q=>by
 rcases h'.2 with ⟨h2,_⟩|⟨g',cap,cur,hv,_,hh,_⟩
 ·rw[h2] at q;cases q
 ·rw[hv] at q
  obtain rfl:g=g':=by simpa [Value.ownBlock] using q
  have hr:Row w g cur.toList e':=by unfold Row;simpa using hh
  exact Lw.ne h hr (fun x=>hne x.symm) g hg rfl
theorem zsJ (H:Dr w0 b4 b6 L w sv ss qv qs) {v:Value} {q:List Value} (G:w.grownBy w' qv.ownBlock) (S:Lw w' tAk 30 v (qs.length+1) (qs.flatten++q)) (ho:v.ownBlock=qv.ownBlock\/v.ownBlock=some w.heap.size):Dr w0 b4 b6 L w' sv ss v (qs++[q]):=by
 refine⟨zdW H.be G H.ao,zeA H.r4 G (fun e=>?_),zeA H.r6 G (fun e=>?_),Lw.gb (u:=qv) H.st G (zyO H.st H.aq (by decide)),H.so,?_,?_⟩
 ·exact Lw.ne H.aq H.r4 (by decide) b4 e.symm rfl
 ·exact Lw.ne H.aq H.r6 (by decide) b6 e.symm rfl
 ·rw[List.length_append,List.length_singleton,List.flatten_append,List.flatten_singleton]
  exact S
 ·intro g hv
  rcases ho with q|q
  ·rw[q] at hv
   exact H.ao g hv
  ·rw[q] at hv
   cases hv
   exact H.be.size
end
theorem dr_set {w0:World} {b4 b6:Nat} {L:List Value} {w w1 w':World} {sv qv:Value} {ss:List Nat} {qs:List (List Value)} {cs ds:List Value} (H:Dr w0 b4 b6 L w sv ss qv qs) (H0:Dr w0 b4 b6 L w1 sv ss qv qs) (_r:Row w w1.heap.size ds tYr) (h:w'=w.setCells w1.heap.size 0 cs):Dr w0 b4 b6 L w' sv ss qv qs:=by
 subst h
 have n4:b4≠w1.heap.size:=Nat.ne_of_lt H0.r4.lt
 have n6:b6≠w1.heap.size:=Nat.ne_of_lt H0.r6.lt
 refine⟨zaC H.be H0.be.size cs,Row.setCells_other H.r4 _ _ _ n4,Row.setCells_other H.r6 _ _ _ n6,Lw.block H.st (fun g hg=>World.heap_setCells_other _ _ _ _ (Lw.lt H.st g hg) (Nat.ne_of_lt (Lw.lt H0.st g hg))),H.so,Lw.block H.aq (fun g hg=>World.heap_setCells_other _ _ _ _ (Lw.lt H.aq g hg) (Nat.ne_of_lt (Lw.lt H0.aq g hg))),H.ao⟩
theorem ry_err (p:Nat × Int):(ry p)[4]?=some (.int .i64 p.2):=by
 unfold ry
 rw[List.getElem?_append_right (by rw[zaV];omega),zaV]
 rfl
theorem ry_val {w:World} {b:Nat} {p:Nat × Int} (r:Row w b (ry p) tYr):w.rangeAt b 0 (wq p.1):=fun j v hj=>by
 rw[Nat.zero_add]
 refine r.cell j v ?_
 unfold ry
 rw[List.getElem?_append_left (List.getElem?_eq_some_iff.1 hj).1]
 exact hj
theorem zdX:∃ ie z,Tryz.prog.info? tAk=some ie/\ie.zero=some z/\ie.size=30/\ie.bytes=104/\z.cells.size=30:=by
 have i1:(Tryz.prog.info? tAk).map (fun i=>(i.size,i.bytes))=some (30,104):=by kernel_rfl
 have i2:((Tryz.prog.info? tAk).bind (·.zero)).map (·.cells.size)=some 30:=by kernel_rfl
 cases hi:Tryz.prog.info? tAk with
 |none=>rw[hi] at i1;cases i1
 |some ie=>
  rw[hi] at i1 i2
  cases hz:ie.zero with
  |none=>simp [hz] at i2
  |some z=>
   have i3:ie.size=30/\ie.bytes=104:=by simpa using i1
   exact⟨ie,z,rfl,hz,i3.1,i3.2,by simpa [hz] using i2⟩
theorem zgH:∃ ie z,Tryz.prog.info? tAk=some ie/\ie.zero=some z/\ie.size=30/\z.cells.size=30:=by
 obtain⟨ie,z,h1,h2,h3,_,h5⟩:=zdX
 exact⟨ie,z,h1,h2,h3,h5⟩
theorem znY {k a b t:Nat} {who:List Value} (h:∀ v ∈ who,v.oneCell'=true):∀ v ∈ aq k a b t who,v.oneCell'=true:=fun v hv=>by
 unfold aq at hv
 simp only[List.mem_cons,List.mem_append] at hv
 rcases hv with rfl|hv|hv|rfl|hv
 ·rfl
 ·exact zvN _ v hv
 ·exact zvN _ v hv
 ·rfl
 ·exact h v hv
theorem zrF {x:Nat}:∀ v ∈ Go.Proofs.YtedeobikfddmgaaGreat.adr x,v.oneCell'=true:=fun v hv=>by
 have h:=zmN x
 rw[<-Array.all_toList] at h
 exact List.all_eq_true.1 h v hv
theorem zvO:∀ v ∈ z20,v.oneCell'=true:=fun v hv=>by
 rw[(List.mem_replicate.1 hv).2]
 rfl
end Go.Proofs.YtedeobikfddmgaaGreat
