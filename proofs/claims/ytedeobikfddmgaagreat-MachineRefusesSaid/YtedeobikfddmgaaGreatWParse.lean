import Derived.Test.YtedeobikfddmgaaGreatWCmp
import Derived.Lib.Strings
set_option maxRecDepth 100000
set_option maxHeartbeats 16000000
namespace Go.Proofs.YtedeobikfddmgaaGreat
open Go Go.RowKit
open Wd
namespace Wd
def pc (a d t:Nat):Nat:=(10*(a % 2 ^ (64*t))+d) / 2 ^ (64*t)
end Wd
namespace Wd
def pars:List Nat->Nat->Option Nat
 |[],a=>some a
 |c :: r,a=>if c<48\/57<c then none else if 10*a+(c-48)<2 ^ 256 then pars r (10*a+(c-48)) else none
def parse (l:List Nat):Option Nat:=if l=[]\/(l.getD 0 0=48/\1<l.length) then none else pars l 0
def ansR (o:Option Nat):Nat:=o.getD 0
def ansE (o:Option Nat):Int:=if o.isSome then 0 else 21
end Wd
structure StrN (s:ByteArray) (l:List Nat):Prop where
 size:s.size=l.length
 lt:∀ x ∈ l,x<256
 at':∀ i (h:i<s.size),s[i].toNat=l.getD i 0
end Go.Proofs.YtedeobikfddmgaaGreat
