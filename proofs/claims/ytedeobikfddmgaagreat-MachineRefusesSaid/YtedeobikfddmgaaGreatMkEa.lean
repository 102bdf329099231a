import Derived.Test.YtedeobikfddmgaaGreatMkAA
import Derived.Test.YtedeobikfddmgaaGreatMkDe
import Derived.Test.YtedeobikfddmgaaGreatMkDl
set_option maxRecDepth 100000
set_option maxHeartbeats 16000000
namespace Go.Proofs.YtedeobikfddmgaaGreat
open Go Go.RowKit
open Sha
open Wd
theorem yaJ (k:Nat) (hk:k<18446744073709551616):wq k=[.int .u64 (k:Int),.int .u64 0,.int .u64 0,.int .u64 0]:=by
 have h0:lim k 0=k:=by unfold lim;rw[Nat.mul_zero,Nat.pow_zero,Nat.div_one,Nat.mod_eq_of_lt hk]
 have hi:∀ i,1<=i->lim k i=0:=fun i hi=>by
  have h1:=Nat.pow_le_pow_right (n:=2) (by decide) (show 64<=64*i by omega)
  have e:k / 2 ^ (64*i)=0:=Nat.div_eq_of_lt (Nat.lt_of_lt_of_le hk (Nat.le_trans (by decide) h1))
  exact (congrArg (· % 18446744073709551616) e).trans (Nat.zero_mod _)
 rw[zaQ,h0,hi 1 (by decide),hi 2 (by decide),hi 3 (by decide)]
 rfl
section
variable {ops:Array Oper} {rest:List Oper} {op:Oper} {a:Act} {w:World} {Q:Exit->Act->World->Prop}
theorem cvt_iu (x:Operand) (ho:op.op=.convert 3 25 x) (hgd:op.guard=none) (k:Nat) (hk:k<18446744073709551616) (hx:a.eval x=.int .i64 (k:Int))
 (h:wpList Tryz.prog ops Q rest (a.put op.dst (.int .u64 (k:Int))) w):wpList Tryz.prog ops Q (op :: rest) a w:=
 wpList_plain hgd fun _ hK=>by
  have hr:IntKind.u64.wrap (k:Int)=(k:Int):=by rw[IntKind.wrap_u64];omega
  unfold Oper.wp execOp
  simp only[ho,hx]
  go_simp
  exact hK _ _ h
end
theorem of_w (k:Nat) (hk:k<18446744073709551616) (w:World):Calls Tryz.prog 98 #[.int .u64 (k:Int)] w fun e w'=>e=.returned (.agg (wq k).toArray)/\Below w.heap.size w w':=by
 obtain⟨L,hL⟩:∃ L,L=wq k:=⟨_,rfl⟩
 have HLC:Hid (L=[.int .u64 (k:Int),.int .u64 0,.int .u64 0,.int .u64 0]):=by rw[hL];exact yaJ k hk
 have HI:Hid ((Tryz.prog.info? 27).map (·.size)=some L.length/\L.length=zW.length/\L.toArray.all (·.oneCell')=true):=by rw[hL];exact⟨zaU _,zaV _,zbH _⟩
 rw[<-hL]
 clear hL hk
 go_enter Tryz.func98,Tryz.ntmps98
 go_wp2_with (first
  |(refine zaK rfl rfl ?_;intro X1 (R1:Hid (Row X1 w.heap.size zW 27)) (B1:Hid (Below w.heap.size w X1)) q3;clear q3;simp only[Act.put,jA,jB,jC])
  |(refine zaD rfl 27 (.tmp 2) (.tmp 4) rfl w.heap.size L zW 27 rfl (by rw[HLC.out];rfl) R1.out HI.out.2.1 HI.out.1 HI.out.2.2 ?_;intro X2 (E2:Hid (X2=_)) (R2:Hid (Row X2 w.heap.size L 27));simp only[Act.put]))
 exact bodyPost_ret (zcK Tryz.results98 _ _ w.heap.size 27 L rfl R2.out Tryz.underlying27 (by kernel_rfl) HI.out.2.1) rfl ⟨rfl,by rw[E2.out];exact zaC B1.out (Nat.le_refl _) _⟩
theorem zgE (r T gs n:Nat) (pl:Value) (C:List Value) (h av stk:Value) (ss:List Nat) (l nx:Nat) (an:List Value) (ls:List Ins) (ags:List Nat) (k:Nat) (hk:k<18446744073709551616) (k0 w0 w:World) (H:Rn k0 w0 w r T gs n pl C h av stk ss l nx an ls ags) (hss:ss.length<=1000):Calls Tryz.prog 83 #[.pointer (some ⟨r,0,none⟩),.int .i64 (k:Int)] w fun e w'=>e=.returned (.int .i64 0)/\∃ stk',Rn k0 w0 w' r T gs n pl C h av stk' (ss++[k]) l nx an ls ags:=by
 obtain⟨L,hL⟩:∃ L,L=wq k:=⟨_,rfl⟩
 have HOF:Hid (∀ W,Calls Tryz.prog 98 #[.int .u64 (k:Int)] W fun e w'=>e=.returned (.agg L.toArray)/\Below W.heap.size W w'):=fun W=>by rw[hL];exact of_w k hk W
 have HLV:Hid (∀ W,Rn k0 w0 W r T gs n pl C h av stk ss l nx an ls ags->Calls Tryz.prog 72 #[.pointer (some ⟨r,0,none⟩),.agg L.toArray] W fun e w'=>e=.returned (.int .i64 0)/\∃ stk',Rn k0 w0 w' r T gs n pl C h av stk' (ss++[k]) l nx an ls ags):=fun W hW=>by rw[hL];exact zcD r T gs n pl C h av stk ss l nx an ls ags k k0 w0 W hW hss
 have HH:Hid (Rn k0 w0 w r T gs n pl C h av stk ss l nx an ls ags):=H
 have HK:Hid (k<18446744073709551616):=hk
 clear H hss hL hk
 go_enter Tryz.func83,Tryz.ntmps83
 go_wp2_with (first
  |(refine cvt_iu (.tmp 6) rfl rfl k HK.out rfl ?_;simp only[Act.put,jA,jB,jC])
  |(go_at_call 98;refine Calls.mono (HOF.out w) ?_;rintro e X1 ⟨rfl,q⟩;have HR:Hid (Rn k0 w0 X1 r T gs n pl C h av stk ss l nx an ls ags):=HH.out.keep q;clear q)
  |(go_at_call 72;refine Calls.mono (HLV.out X1 HR.out) ?_;rintro e Y ⟨rfl,stk',q⟩;have HQ:Hid (Rn k0 w0 Y r T gs n pl C h av stk' (ss++[k]) l nx an ls ags):=q;clear q))
 go_ret
 exact⟨rfl,_,HQ.out⟩
theorem ziO (r T gs n:Nat) (pl:Value) (C:List Value) (h av stk:Value) (ss:List Nat) (l nx:Nat) (an:List Value) (ls:List Ins) (ags:List Nat) (B:Bool) (k0 w0 w:World) (H:Rn k0 w0 w r T gs n pl C h av stk ss l nx an ls ags) (hss:ss.length<=1000):Calls Tryz.prog 79 #[.pointer (some ⟨r,0,none⟩),.bool B] w fun e w'=>e=.returned (.int .i64 0)/\∃ stk',Rn k0 w0 w' r T gs n pl C h av stk' (ss++[if B=true then 1 else 0]) l nx an ls ags:=by
 cases B
 ·exact zmD r T gs n pl C h av stk ss l nx an ls ags k0 w0 w H hss
 ·exact zmE r T gs n pl C h av stk ss l nx an ls ags k0 w0 w H hss
end Go.Proofs.YtedeobikfddmgaaGreat
