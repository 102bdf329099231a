import Derived.Test.YtedeobikfddmgaaGreatMkDb
set_option maxRecDepth 100000
set_option maxHeartbeats 16000000
namespace Go.Proofs.YtedeobikfddmgaaGreat
open Go Go.RowKit
open Sha
open Wd
theorem zcW:zR.toArray.all (·.oneCell')=true:=by rw[<-Array.all_toList];rfl
def rans (E:Int) (v l1:Nat):List Value:=if E=0 then wq v++[.int .i64 ((100-l1:Nat):Int)] else zR
end Go.Proofs.YtedeobikfddmgaaGreat
