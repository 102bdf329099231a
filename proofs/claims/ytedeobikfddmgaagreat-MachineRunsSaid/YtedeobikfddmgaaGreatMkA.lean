import Derived.Test.YtedeobikfddmgaaGreatMkAA
import Derived.Test.YtedeobikfddmgaaGreatXMem
import Derived.Test.YtedeobikfddmgaaGreatTFp
import Derived.LoopN
set_option maxRecDepth 100000
set_option maxHeartbeats 16000000
namespace Go.Proofs.YtedeobikfddmgaaGreat
open Go Go.RowKit
open Sha
def rw (k:Nat):List Value:=match k with
 |0=>[.string ⟨#[115,116,111,112]⟩,.int .i64 0,.int .i64 1,.int .i64 0,.int .i64 0,.func (.func 40) #[] #[]]
 |1=>[.string ⟨#[100,111,110,101]⟩,.int .i64 0,.int .i64 1,.int .i64 1,.int .i64 0,.func (.func 41) #[] #[]]
 |2=>[.string ⟨#[112,117,115,104]⟩,.int .i64 1,.int .i64 1,.int .i64 0,.int .i64 1,.func (.func 42) #[] #[]]
 |3=>[.string ⟨#[112,111,112]⟩,.int .i64 0,.int .i64 1,.int .i64 1,.int .i64 0,.func (.func 43) #[] #[]]
 |4=>[.string ⟨#[100,117,112]⟩,.int .i64 2,.int .i64 1,.int .i64 1,.int .i64 2,.func (.func 44) #[] #[]]
 |5=>[.string ⟨#[115,119,97,112]⟩,.int .i64 3,.int .i64 1,.int .i64 1,.int .i64 1,.func (.func 45) #[] #[]]
 |6=>[.string ⟨#[97,100,100]⟩,.int .i64 0,.int .i64 2,.int .i64 2,.int .i64 1,.func (.func 46) #[] #[]]
 |7=>[.string ⟨#[115,117,98]⟩,.int .i64 0,.int .i64 2,.int .i64 2,.int .i64 1,.func (.func 47) #[] #[]]
 |8=>[.string ⟨#[109,117,108]⟩,.int .i64 0,.int .i64 5,.int .i64 2,.int .i64 1,.func (.func 48) #[] #[]]
 |9=>[.string ⟨#[100,105,118]⟩,.int .i64 0,.int .i64 10,.int .i64 2,.int .i64 1,.func (.func 49) #[] #[]]
 |10=>[.string ⟨#[109,111,100]⟩,.int .i64 0,.int .i64 10,.int .i64 2,.int .i64 1,.func (.func 50) #[] #[]]
 |11=>[.string ⟨#[108,101,115,115]⟩,.int .i64 0,.int .i64 2,.int .i64 2,.int .i64 1,.func (.func 51) #[] #[]]
 |12=>[.string ⟨#[115,97,109,101]⟩,.int .i64 0,.int .i64 2,.int .i64 2,.int .i64 1,.func (.func 52) #[] #[]]
 |13=>[.string ⟨#[110,111,116]⟩,.int .i64 0,.int .i64 2,.int .i64 1,.int .i64 1,.func (.func 53) #[] #[]]
 |14=>[.string ⟨#[106,117,109,112]⟩,.int .i64 5,.int .i64 5,.int .i64 0,.int .i64 0,.func (.func 54) #[] #[]]
 |15=>[.string ⟨#[119,104,101,110]⟩,.int .i64 5,.int .i64 5,.int .i64 1,.int .i64 0,.func (.func 55) #[] #[]]
 |16=>[.string ⟨#[97,114,103]⟩,.int .i64 4,.int .i64 2,.int .i64 0,.int .i64 1,.func (.func 56) #[] #[]]
 |17=>[.string ⟨#[97,114,103,115]⟩,.int .i64 0,.int .i64 2,.int .i64 0,.int .i64 1,.func (.func 57) #[] #[]]
 |18=>[.string ⟨#[99,97,108,108,101,114]⟩,.int .i64 0,.int .i64 2,.int .i64 0,.int .i64 1,.func (.func 58) #[] #[]]
 |19=>[.string ⟨#[115,101,108,102]⟩,.int .i64 0,.int .i64 2,.int .i64 0,.int .i64 1,.func (.func 59) #[] #[]]
 |20=>[.string ⟨#[116,111,107,101,110]⟩,.int .i64 0,.int .i64 2,.int .i64 0,.int .i64 1,.func (.func 60) #[] #[]]
 |21=>[.string ⟨#[97,109,111,117,110,116]⟩,.int .i64 0,.int .i64 2,.int .i64 0,.int .i64 1,.func (.func 61) #[] #[]]
 |22=>[.string ⟨#[116,105,109,101]⟩,.int .i64 0,.int .i64 2,.int .i64 0,.int .i64 1,.func (.func 62) #[] #[]]
 |23=>[.string ⟨#[103,97,115]⟩,.int .i64 0,.int .i64 2,.int .i64 0,.int .i64 1,.func (.func 63) #[] #[]]
 |24=>[.string ⟨#[108,111,97,100]⟩,.int .i64 0,.int .i64 200,.int .i64 1,.int .i64 1,.func (.func 64) #[] #[]]
 |25=>[.string ⟨#[115,97,118,101]⟩,.int .i64 0,.int .i64 200,.int .i64 2,.int .i64 0,.func (.func 65) #[] #[]]
 |26=>[.string ⟨#[104,97,118,101]⟩,.int .i64 0,.int .i64 200,.int .i64 2,.int .i64 1,.func (.func 66) #[] #[]]
 |27=>[.string ⟨#[115,101,110,100]⟩,.int .i64 0,.int .i64 500,.int .i64 3,.int .i64 0,.func (.func 67) #[] #[]]
 |_=>[]
def mtab:List Value:=(List.range 28).flatMap rw
theorem zyI:(Tryz.prog.info? 95).map (·.size)=some 6:=by kernel_rfl
abbrev zrow:Value:=.agg #[.string ⟨#[]⟩,.int .i64 0,.int .i64 0,.int .i64 0,.int .i64 0,.nilFunc]
theorem zlH:(Tryz.prog.info? 95).map (fun i=>(i.size,i.zero))=some (6,some zrow):=by kernel_rfl
theorem zjZ:∃ ie,Tryz.prog.info? 95=some ie/\ie.size=6/\ie.zero=some zrow:=by
 have i1:=zlH
 cases hi:Tryz.prog.info? 95 with
 |none=>rw[hi] at i1;cases i1
 |some ie=>
  rw[hi] at i1
  simp only[Option.map_some,Option.some.injEq,Prod.mk.injEq] at i1
  exact⟨ie,rfl,i1.1,i1.2⟩
theorem zrB {ops:Array Oper} {rest:List Oper} {op:Oper} {a:Act} {w:World} {Q:Exit->Act->World->Prop} (hgd:op.guard=none) (parts:Array (Nat × Operand)) (ho:op.op=.buildSlice 68 28 parts)
 (hp:Instr.fill (fun i=>some (i*6,6)) ((Array.range (28*6)).map (zrow.cells[· % zrow.cells.size]!)) (parts.map fun (i,x)=>(i,a.eval x)).toList=some mtab.toArray)
 (h:∀ X,Row X w.heap.size mtab 95->Below w.heap.size w X->wpList Tryz.prog ops Q rest (a.put op.dst (.slice (some ⟨w.heap.size,0,none⟩) 28 28)) X):wpList Tryz.prog ops Q (op :: rest) a w:=by
 obtain⟨ie,h1,h2,h3⟩:=zjZ
 exact wpList_buildSlice hgd 68 95 28 parts ho mtab.toArray ie zrow Tryz.underlying68 h1 h3 (by rw[h2];decide) (by rw[h2];decide) (by rw[h2];exact hp) (h _ (Row.new' rfl rfl) ((Below.refl _ _).alloc (Nat.le_refl _) _))
theorem zfG (w:World):Calls Tryz.prog 24 #[] w fun e w'=>e=.returned (.slice (some ⟨w.heap.size,0,none⟩) 28 28)/\Row w' w.heap.size mtab 95/\Below w.heap.size w w':=by
 go_enter Tryz.func24,Tryz.ntmps24
 go_wp2_with (refine zrB rfl _ rfl (by kernel_rfl) ?_;intro X (R:Hid (Row X w.heap.size mtab 95)) (B:Hid (Below w.heap.size w X));simp only[Act.put,jA,jB,jC])
 go_ret
 exact⟨rfl,R.out,B.out⟩
end Go.Proofs.YtedeobikfddmgaaGreat
