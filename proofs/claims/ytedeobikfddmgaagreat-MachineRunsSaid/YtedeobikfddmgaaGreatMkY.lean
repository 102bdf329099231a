import Derived.Test.YtedeobikfddmgaaGreatMkAA
import Derived.Test.YtedeobikfddmgaaGreatMkX
set_option maxRecDepth 100000
set_option maxHeartbeats 16000000
namespace Go.Proofs.YtedeobikfddmgaaGreat
open Go Go.RowKit
open Sha
open Wd
theorem zpZ (g:Nat):Tryz.prog.built 30 [(6,.int .i64 100),(4,.slice (some ⟨g,0,none⟩) 2 2)]=some (zcO (.slice (some ⟨g,0,none⟩) 2 2)).toArray:=by kernel_rfl
theorem zqA (gc ga:Nat):Tryz.prog.built 33 [(0,.slice (some ⟨gc,0,none⟩) 6 6),(1,.agg (zcO (.slice (some ⟨ga,0,none⟩) 2 2)).toArray)]=some (Value.slice (some ⟨gc,0,none⟩) 6 6 :: (zcO (.slice (some ⟨ga,0,none⟩) 2 2)++[.slice none 0 0])).toArray:=by kernel_rfl
section
variable {ops:Array Oper} {rest:List Oper} {op:Oper} {a:Act} {w:World} {Q:Exit->Act->World->Prop}
theorem zkR (hgd:op.guard=none) (x:Operand) (ho:op.op=.build 30 #[(6,.const (.int .i64 100)),(4,x)]) (g:Nat) (hx:a.eval x=.slice (some ⟨g,0,none⟩) 2 2) (L:List Value) (hL:L=zcO (.slice (some ⟨g,0,none⟩) 2 2)) (h:wpList Tryz.prog ops Q rest (a.put op.dst (.agg L.toArray)) w):wpList Tryz.prog ops Q (op :: rest) a w:=
 wpList_plain hgd fun _ hK=>by
  subst hL
  have hr:=run_build (P:=Tryz.prog) w 30 #[(6,.int .i64 100),(4,.slice (some ⟨g,0,none⟩) 2 2)] _ (zpZ g)
  have hc:a.eval (.const (.int .i64 100))=.int .i64 100:=rfl
  unfold Oper.wp execOp
  simp only[ho,List.map_toArray,List.map_cons,List.map_nil,hx,hc,Sem.run_bind,hr,Result.andThen_ok,Sem.run_pure,Oper.upon_value]
  exact hK _ _ h
theorem zjC (hgd:op.guard=none) (x y:Operand) (ho:op.op=.build 33 #[(0,x),(1,y)]) (gc ga:Nat) (L P:List Value) (hL:L=zcO (.slice (some ⟨ga,0,none⟩) 2 2)) (hP:P=.slice (some ⟨gc,0,none⟩) 6 6 :: (zcO (.slice (some ⟨ga,0,none⟩) 2 2)++[.slice none 0 0])) (hx:a.eval x=.slice (some ⟨gc,0,none⟩) 6 6) (hy:a.eval y=.agg L.toArray) (h:wpList Tryz.prog ops Q rest (a.put op.dst (.agg P.toArray)) w):wpList Tryz.prog ops Q (op :: rest) a w:=
 wpList_plain hgd fun _ hK=>by
  subst hL hP
  have hr:=run_build (P:=Tryz.prog) w 33 #[(0,.slice (some ⟨gc,0,none⟩) 6 6),(1,.agg (zcO (.slice (some ⟨ga,0,none⟩) 2 2)).toArray)] _ (zqA gc ga)
  unfold Oper.wp execOp
  simp only[ho,List.map_toArray,List.map_cons,List.map_nil,hx,hy,Sem.run_bind,hr,Result.andThen_ok,Sem.run_pure,Oper.upon_value]
  exact hK _ _ h
end
theorem sz_u64 (w:World):(sizeOf 25).run Tryz.prog w=.ok 1 w:=by
 go_simp
theorem eqW12 (w:World):(Op.equalIn 9999 27 (.agg #[.int .u64 12,.int .u64 0,.int .u64 0,.int .u64 0]) (.agg #[.int .u64 12,.int .u64 0,.int .u64 0,.int .u64 0])).run Tryz.prog w=.ok true w:=by
 have q:=zeE (P:=Tryz.prog) (w:=w) 9997 27 25 4 Tryz.underlying27 Tryz.underlying25 sz_u64 (dgs 12 4) (dgs 12 4) (zaH _ _) (zaH _ _)
 have e:vQ (dgs 12 4)=[.int .u64 12,.int .u64 0,.int .u64 0,.int .u64 0]:=by
  show wq 12=_
  rw[zaQ,show lim 12 0=12 by decide +kernel,show lim 12 1=0 by decide +kernel,show lim 12 2=0 by decide +kernel,show lim 12 3=0 by decide +kernel]
  rfl
 rw[e,decide_eq_true rfl] at q
 exact q
theorem zkZ (w:World):Calls Tryz.prog 8 #[] w fun e w'=>e=.returned (.bool true)/\Below w.heap.size w w':=by
 obtain⟨L,hL⟩:∃ L,L=zcO (.slice (some ⟨w.heap.size+1,0,none⟩) 2 2):=⟨_,rfl⟩
 have HL:Hid (L=zcO (.slice (some ⟨w.heap.size+1,0,none⟩) 2 2)):=hL
 obtain⟨P,hP⟩:∃ P,P=Value.slice (some ⟨w.heap.size,0,none⟩) 6 6 :: (zcO (.slice (some ⟨w.heap.size+1,0,none⟩) 2 2)++[.slice none 0 0]):=⟨_,rfl⟩
 have HP:Hid (P=Value.slice (some ⟨w.heap.size,0,none⟩) 6 6 :: (zcO (.slice (some ⟨w.heap.size+1,0,none⟩) 2 2)++[.slice none 0 0])):=hP
 clear hL hP
 go_enter Tryz.func8,Tryz.ntmps8
 go_wp2_with (first
  |(refine zkR rfl (.tmp 8) rfl (w.heap.size+1) rfl L HL.out ?_;simp only[Act.put,jA,jB,jC])
  |(refine zjC rfl (.tmp 5) (.tmp 9) rfl w.heap.size (w.heap.size+1) L P HL.out HP.out rfl rfl ?_;simp only[Act.put,jA,jB,jC]))
 have r0:Row ((w.alloc (Obj.cells (vB dA).toArray 5)).alloc (Obj.cells (fw [5,7]).toArray 27)) w.heap.size (vB dA) 5:=(Row.new' rfl rfl).alloc _
 have r1:Row ((w.alloc (Obj.cells (vB dA).toArray 5)).alloc (Obj.cells (fw [5,7]).toArray 27)) (w.heap.size+1) (fw [5,7]) 27:=Row.new' (by simp) rfl
 have e57:fw [5,7]=[.int .u64 5,.int .u64 0,.int .u64 0,.int .u64 0,.int .u64 7,.int .u64 0,.int .u64 0,.int .u64 0]:=by
  show wq 5++(wq 7++[])=_
  rw[zaQ,zaQ,show lim 5 0=5 by decide +kernel,show lim 5 1=0 by decide +kernel,show lim 5 2=0 by decide +kernel,show lim 5 3=0 by decide +kernel,show lim 7 0=7 by decide +kernel,show lim 7 1=0 by decide +kernel,show lim 7 2=0 by decide +kernel,show lim 7 3=0 by decide +kernel]
  rfl
 have HC:=zqQ w.heap.size (w.heap.size+1) P HP.out _ r0 r1.all
 rw[e57] at HC
 refine Calls.mono HC ?_
 rintro e X ⟨rfl,q⟩
 have BX:Hid (Below w.heap.size w X):=(((Below.refl w.heap.size w).alloc (Nat.le_refl _) _).alloc (by simp) _).trans (q.mono (by simp;omega))
 clear q HC r0 r1 e57
 have hW:=eqW12
 go_wp2_with (first
  |(refine zaT rfl rfl ?_;intro Y (RY:Hid (Row Y X.heap.size zR 35)) (BY:Hid (Below X.heap.size X Y)) q3;clear q3;simp only[Act.put,jA,jB,jC])
  |(refine zaD rfl 35 (.tmp 1) (.tmp 12) rfl X.heap.size R12 zR 35 rfl rfl RY.out rfl zaP zrD ?_;intro Z q1 q2;have EZ:Hid (Z=_):=q1;have RZ:Hid (Row Z X.heap.size R12 35):=q2;have z0:=q2.cell 0 _ rfl;have z1:=q2.cell 1 _ rfl;have z2:=q2.cell 2 _ rfl;have z3:=q2.cell 3 _ rfl;have z4:=q2.cell 4 _ rfl;clear q1 q2;simp only[Act.put]))
 go_ret
 exact⟨rfl,by rw[EZ.out];exact zaC (BX.out.trans (BY.out.mono BX.out.size)) BX.out.size _⟩
end Go.Proofs.YtedeobikfddmgaaGreat
