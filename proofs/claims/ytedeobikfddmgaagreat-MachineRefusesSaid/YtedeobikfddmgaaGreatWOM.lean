import Derived.Test.YtedeobikfddmgaaGreatWDvN
set_option maxRecDepth 100000
set_option maxHeartbeats 16000000
namespace Go.Proofs.YtedeobikfddmgaaGreat
open Go
namespace Wd
def bt (a i:Nat):Nat:=a / 2 ^ i % 2
def bts (a n:Nat):List Nat:=(List.range n).map (bt a)
def blen (a:Nat):Nat:=if a=0 then 0 else a.log2+1
def vI (l:List Nat):List Value:=l.map (fun (x:Nat)=>Value.int .i64 (x:Int))
theorem ziN (l:List Nat):(vI l).length=l.length:=by simp [vI]
theorem zfH (l:List Nat) (i:Nat) (h:i<l.length):(vI l)[i]?=some (.int .i64 ((l.getD i 0:Nat):Int)):=by simp [vI,h]
theorem zmC (l:List Nat) (i:Nat) (x:Nat):(vI l).set i (.int .i64 (x:Int))=vI (l.set i x):=by simp [vI,List.map_set]
end Wd
end Go.Proofs.YtedeobikfddmgaaGreat
