import Derived.Test.YtedeobikfddmgaaGreatWKn
import Derived.Laws.AppendOwn
set_option maxRecDepth 100000
set_option maxHeartbeats 16000000
namespace Go.Proofs.YtedeobikfddmgaaGreat
open Go Go.RowKit
open Wd
def vU (l:List Nat):List Value:=l.map (fun (x:Nat)=>Value.int .u8 (x:Int))
theorem zvI (l:List Nat) (i:Nat) (h:i<l.length):(vU l)[i]?=some (.int .u8 ((l.getD i 0:Nat):Int)):=by simp [vU,h]
theorem vU_set (l:List Nat) (i:Nat) (x:Nat):(vU l).set i (.int .u8 (x:Int))=vU (l.set i x):=by simp [vU,List.map_set]
theorem zmW:(Tryz.prog.info? 5).map (fun i=>(i.zero,i.size,i.bytes))=some (some (.int .u8 0),1,1):=by kernel_rfl
theorem zyP (n:Nat):madeCells (Value.int IntKind.u8 0).cells (n*1)=(vU (List.replicate n 0)).toArray:=by
 apply Array.ext'
 rw[show (Value.int IntKind.u8 0).cells=#[Value.int IntKind.u8 0] from rfl,toList_madeCells_one]
 simp [vU]
section
variable {P:Program} {ops:Array Oper} {rest:List Oper} {op:Oper} {a:Act} {w:World} {Q:Exit->Act->World->Prop}
theorem zkS (hgd:op.guard=none) (t:TypeId) (x y:Operand) (ho:op.op=.makeSlice t x y) (e:TypeId) (n:Nat) (l l':Int) (hl:l=(n:Int)) (hl':l'=(n:Int)) (hx:a.eval x=.int .i64 l) (hy:a.eval y=.int .i64 l') (hn:n<=35184372088832)
 (hu:P.underlying t=some (.slice e)) (hi:(P.info? e).map (fun i=>(i.zero,i.size,i.bytes))=some (some (.int .u8 0),1,1))
 (h:wpList P ops Q rest (a.put op.dst (.slice (some ⟨w.heap.size,0,none⟩) n n)) (w.alloc (.cells (vU (List.replicate n 0)).toArray e))):wpList P ops Q (op :: rest) a w:=
 wpList_plain hgd fun _ hK=>by
  subst hl;subst hl'
  obtain⟨i,hi0,hz,hs,hb⟩:=info_parts hi
  have hr:=run_make (P:=P) w t e i (.int .u8 0) hu hi0 hz .i64 .i64 (n:Int) (n:Int) (by omega) (by omega) (by rw[hb];omega) (by omega)
  rw[hs,Int.toNat_natCast,zyP] at hr
  unfold Oper.wp execOp
  simp only[ho,hx,hy,Sem.run_bind,hr,Result.andThen_ok]
  exact hK _ _ h
end
end Go.Proofs.YtedeobikfddmgaaGreat
