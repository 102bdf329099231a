import Derived.Test.YtedeobikfddmgaaGreatMkDe
import Derived.Test.YtedeobikfddmgaaGreatMkDl
set_option maxRecDepth 100000
set_option maxHeartbeats 16000000
namespace Go.Proofs.YtedeobikfddmgaaGreat
open Go Go.RowKit
open Sha
open Wd
def bin (c x y:Nat):Option (Nat × Int):=
 if c=6 then some (zvT x y,zvS x y) else if c=7 then some (zvV x y,zuT x y) else if c=8 then some (zyU x y,zyT x y) else
 if c=9 then some (zsD x y,zmP y) else if c=10 then some (zsE x y,zmP y) else if c=11 then some (if x<y then 1 else 0,0) else none
def gasB (c:Nat):Nat:=if c=8 then 5 else if c=9\/c=10 then 10 else 2
def ev (ags:List Nat):List Ins->List Nat->Nat->Option (Int × Nat × Nat)
 |[],_,_=>none
 |x :: r,st,l=>
  if x.c=16 then (match ags[x.n]? with|some a=>if 2<=l/\x.a=0 then ev ags r (a :: st) (l-2) else none|none=>none)
  else if x.c=1 then (match st with|v :: _=>if 1<=l/\x.a=0 then some (0,v,l-1) else none | []=>none)
  else (match st with
   |y :: x' :: st'=>(match bin x.c x' y with
    |some (z,E)=>if gasB x.c<=l/\x.a=0 then (if E=0 then ev ags r (z :: st') (l-gasB x.c) else some (104,0,0)) else none
    |none=>none)
   |_=>none)
theorem zrM {c x y z:Nat} {E:Int} (hx:x<2 ^ 256) (hy:y<2 ^ 256) (h:bin c x y=some (z,E)):z<2 ^ 256/\(c=6\/c=7\/c=8\/c=9\/c=10\/c=11):=by
 have h1:1<2 ^ 256:=Nat.lt_of_lt_of_le (by decide:1<2 ^ 8) (Nat.pow_le_pow_right (by decide) (by decide))
 have h0:0<2 ^ 256:=Nat.lt_trans (by decide) h1
 unfold bin at h
 split at h
 ·rename_i hc
  simp only[Option.some.injEq,Prod.mk.injEq] at h
  refine⟨?_,.inl hc⟩
  rw[<-h.1];unfold zvT;split
  ·assumption
  ·exact h0
 split at h
 ·rename_i hc
  simp only[Option.some.injEq,Prod.mk.injEq] at h
  refine⟨?_,.inr (.inl hc)⟩
  rw[<-h.1];unfold zvV;split
  ·exact h0
  ·omega
 split at h
 ·rename_i hc
  simp only[Option.some.injEq,Prod.mk.injEq] at h
  refine⟨?_,.inr (.inr (.inl hc))⟩
  rw[<-h.1];unfold zyU;split
  ·assumption
  ·exact h0
 split at h
 ·rename_i hc
  simp only[Option.some.injEq,Prod.mk.injEq] at h
  refine⟨?_,.inr (.inr (.inr (.inl hc)))⟩
  rw[<-h.1];unfold zsD;split
  ·exact h0
  ·exact Nat.lt_of_le_of_lt (Nat.div_le_self _ _) hx
 split at h
 ·rename_i hc
  simp only[Option.some.injEq,Prod.mk.injEq] at h
  refine⟨?_,.inr (.inr (.inr (.inr (.inl hc))))⟩
  rw[<-h.1];unfold zsE;split
  ·exact h0
  ·exact Nat.lt_of_le_of_lt (Nat.mod_le _ _) hx
 split at h
 ·rename_i hc
  simp only[Option.some.injEq,Prod.mk.injEq] at h
  refine⟨?_,.inr (.inr (.inr (.inr (.inr hc))))⟩
  rw[<-h.1];split
  ·exact h1
  ·exact h0
 ·cases h
end Go.Proofs.YtedeobikfddmgaaGreat
