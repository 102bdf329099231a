import Derived.Test.YtedeobikfddmgaaGreatMkFk
set_option maxRecDepth 100000
set_option maxHeartbeats 16000000
namespace Go.Proofs.YtedeobikfddmgaaGreat
open Go Go.RowKit
open Sha
open Wd
theorem Lw.row {w:World} {e:TypeId} {s n g c:Nat} {xs:List Value} (h:Lw w e s (.slice (some ⟨g,0,none⟩) n c) n xs):∃ cur,Row w g cur e:=by
 obtain⟨_,h2⟩:=h
 rcases h2 with ⟨h2,_⟩|⟨g',cap,cur,hv,_,hh,_⟩
 ·cases h2
 ·simp only[Value.slice.injEq,Option.some.injEq,Addr.mk.injEq] at hv
  obtain⟨⟨rfl,_,_⟩,_,_⟩:=hv
  exact⟨cur.toList,by unfold Row;simpa using hh⟩
def rs2 (rs:List (Nat × Int)) (t k V:Nat) (E:Int):List (Nat × Int):=(rs++List.replicate t (0,0)).set k (V,E)
def v1234:Nat:=1+2*2 ^ 64+3*2 ^ 128+4*2 ^ 192
end Go.Proofs.YtedeobikfddmgaaGreat
