import Derived.Test.YtedeobikfddmgaaGreatWEq
import Derived.Test.YtedeobikfddmgaaGreatWDivU
import Derived.Test.YtedeobikfddmgaaGreatWOM
import Derived.Laws.MakeOwn
import Derived.Laws.OwnMore
import Derived.BigQuiet
set_option maxRecDepth 100000
set_option maxHeartbeats 16000000
namespace Go.Proofs.YtedeobikfddmgaaGreat
open Go Go.RowKit
open Wd
theorem zyG (n:Int):bits .and .i64 n 1=n % 2:=by
 have h1:(BitVec.ofInt 64 1).toNat=2 ^ 1-1:=by decide
 have key:(BitVec.ofInt 64 n &&& BitVec.ofInt 64 1).toNat=(n % ((2 ^ 64:Nat):Int)).toNat % 2 ^ 1:=by
  rw[BitVec.toNat_and,BitVec.toNat_ofInt,h1,Nat.and_two_pow_sub_one_eq_mod]
 show IntKind.i64.wrap ((BitVec.ofInt 64 n &&& BitVec.ofInt 64 1).toNat:Nat)=n % 2
 rw[key,IntKind.wrap_i64]
 omega
theorem zbN:(Tryz.prog.info? 3).map (fun i=>(i.zero,i.size,i.bytes))=some (some (.int .i64 0),1,8):=by kernel_rfl
theorem ztK (n:Nat):madeCells (Value.int IntKind.i64 0).cells (n*1)=(vI (List.replicate n 0)).toArray:=by
 apply Array.ext'
 rw[show (Value.int IntKind.i64 0).cells=#[Value.int IntKind.i64 0] from rfl,toList_madeCells_one]
 simp [vI]
section
variable {P:Program} {ops:Array Oper} {rest:List Oper} {op:Oper} {a:Act} {w:World} {Q:Exit->Act->World->Prop}
theorem zbM (hgd:op.guard=none) (t:TypeId) (x y:Operand) (ho:op.op=.makeSlice t x y) (e:TypeId) (n:Nat) (l l':Int) (hl:l=(n:Int)) (hl':l'=(n:Int)) (hx:a.eval x=.int .i64 l) (hy:a.eval y=.int .i64 l') (hn:n<=35184372088832)
 (hu:P.underlying t=some (.slice e)) (hi:(P.info? e).map (fun i=>(i.zero,i.size,i.bytes))=some (some (.int .i64 0),1,8))
 (h:wpList P ops Q rest (a.put op.dst (.slice (some ⟨w.heap.size,0,none⟩) n n)) (w.alloc (.cells (vI (List.replicate n 0)).toArray e))):wpList P ops Q (op :: rest) a w:=
 wpList_plain hgd fun _ hK=>by
  subst hl;subst hl'
  obtain⟨i,hi0,hz,hs,hb⟩:=info_parts hi
  have hr:=run_make (P:=P) w t e i (.int .i64 0) hu hi0 hz .i64 .i64 (n:Int) (n:Int) (by omega) (by omega) (by rw[hb];omega) (by omega)
  rw[hs,Int.toNat_natCast,ztK] at hr
  unfold Oper.wp execOp
  simp only[ho,hx,hy,Sem.run_bind,hr,Result.andThen_ok,Sem.run_pure,Oper.upon_value]
  exact hK _ _ h
end
end Go.Proofs.YtedeobikfddmgaaGreat
