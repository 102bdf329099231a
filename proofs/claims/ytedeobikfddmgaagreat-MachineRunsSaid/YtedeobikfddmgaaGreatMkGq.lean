import Derived.Test.YtedeobikfddmgaaGreatMkAA
import Derived.Test.YtedeobikfddmgaaGreatMkGh
import Derived.Test.YtedeobikfddmgaaGreatMkEp
import Derived.Test.YtedeobikfddmgaaGreatMkJ
import Derived.Test.YtedeobikfddmgaaGreatMkFk
import Derived.Test.YtedeobikfddmgaaGreatMkEo
import Derived.Great.BuildSlice
import Derived.Test.YtedeobikfddmgaaGreatMkEi
import Derived.Test.YtedeobikfddmgaaGreatMkFh
import Derived.Test.YtedeobikfddmgaaGreatMkZb
import Derived.Laws.AppendOwnNone
import Derived.Deep.Upon
set_option maxRecDepth 100000
set_option maxHeartbeats 16000000
namespace Go.Proofs.YtedeobikfddmgaaGreat
open Go Go.RowKit
open Wd
def sm (c x y:Nat):Nat × Bool:=
 if c=6 then ((x+y) % 256 ^ 32,decide (x+y<2 ^ 256)) else if c=7 then (if x<y then 0 else x-y,!decide (x<y)) else if c=8 then (x*y % 256 ^ 32,decide (x*y<2 ^ 256))
 else if c=9 then (if y=0 then 0 else x / y,!decide (y=0)) else if c=10 then (if y=0 then 0 else x % y,!decide (y=0)) else if c=11 then (if decide (x<y)=true then 1 else 0,true) else (if decide (x=y)=true then 1 else 0,true)
theorem sum_6 (x y:Nat) (hx:x<2 ^ 256) (hy:y<2 ^ 256) (w:World) :
 Calls Tryz.prog 16 #[.int .i64 6,.agg (vQ (dgs x 4)).toArray,.agg (vQ (dgs y 4)).toArray] w fun e w'=>e=.returned (.tuple #[.agg (vQ (dgs ((x+y) % 256 ^ 32) 4)).toArray,.bool (decide (x+y<2 ^ 256))])/\Below w.heap.size w w':=by
 obtain⟨ca,Ha⟩:∃ c,Wc c x:=⟨_,rfl⟩
 obtain⟨cb,Hb⟩:∃ c,Wc c y:=⟨_,rfl⟩
 obtain⟨Z,hZ⟩:∃ Z,Z=((x+y) % 256 ^ 32):=⟨_,rfl⟩
 rw[<-hZ]
 have HZ:Hid (Z=((x+y) % 256 ^ 32)):=hZ
 obtain⟨cr,Hr⟩:∃ c,Wc c Z:=⟨_,rfl⟩
 rw[<-show ca=vQ (dgs x 4) from Ha,<-show cb=vQ (dgs y 4) from Hb,<-show cr=vQ (dgs Z 4) from Hr]
 have HX:Hid (x<256 ^ 32):=by show x<256 ^ 32;rw[p32];exact hx
 have HY:Hid (y<256 ^ 32):=by show y<256 ^ 32;rw[p32];exact hy
 have HX2:Hid (x<2 ^ 256):=hx
 have HY2:Hid (y<2 ^ 256):=hy
 clear hZ hx hy
 obtain⟨B,hB⟩:∃ B,B=decide (x+y<2 ^ 256):=⟨_,rfl⟩
 rw[<-hB]
 have HBB:Hid (decide (x+y<2 ^ 256)=B):=hB.symm
 clear hB
 have hb0:Below w.heap.size w (((w.alloc (Obj.cells ca.toArray 27)).alloc (Obj.cells cb.toArray 27)).alloc (Obj.cells #[.int .u64 0,.int .u64 0,.int .u64 0,.int .u64 0] 27)):=(((Below.refl _ _).alloc (Nat.le_refl _) _).alloc (by simp) _).alloc (by simp;omega) _
 have r0:Row (((w.alloc (Obj.cells ca.toArray 27)).alloc (Obj.cells cb.toArray 27)).alloc (Obj.cells #[.int .u64 0,.int .u64 0,.int .u64 0,.int .u64 0] 27)) w.heap.size ca 27:=((Row.new w ca _).alloc _).alloc _
 have r1:Row (((w.alloc (Obj.cells ca.toArray 27)).alloc (Obj.cells cb.toArray 27)).alloc (Obj.cells #[.int .u64 0,.int .u64 0,.int .u64 0,.int .u64 0] 27)) (w.heap.size+1) cb 27:=(Row.new' (by simp) rfl).alloc _
 have r2:Row (((w.alloc (Obj.cells ca.toArray 27)).alloc (Obj.cells cb.toArray 27)).alloc (Obj.cells #[.int .u64 0,.int .u64 0,.int .u64 0,.int .u64 0] 27)) (w.heap.size+2) (vQ (List.replicate 4 0)) 27:=Row.new' (by simp) rfl
 obtain⟨W0,hW0⟩:∃ W,W=((w.alloc (Obj.cells ca.toArray 27)).alloc (Obj.cells cb.toArray 27)).alloc (Obj.cells #[.int .u64 0,.int .u64 0,.int .u64 0,.int .u64 0] 27):=⟨_,rfl⟩
 rw[<-hW0] at hb0 r0 r1 r2
 have hsz:W0.heap.size=w.heap.size+3:=by rw[hW0];simp
 have HS:Hid (W0.heap.size=w.heap.size+3):=hsz
 have HR2:Hid (Row W0 (w.heap.size+2) (vQ (List.replicate 4 0)) 27):=r2
 have HB0:Hid (Below w.heap.size w W0):=hb0
 have HR0:Hid (Row W0 w.heap.size ca 27):=r0
 have HR1:Hid (Row W0 (w.heap.size+1) cb 27):=r1
 clear r2 hb0 r0 r1 hsz
 go_enter Tryz.func16,Tryz.ntmps16
 go_upto_region 1 with fail
 rw[<-hW0]
 clear hW0
 go_upto_region 2 with (first
  |(refine wpList_load_mid rfl 27 (.tmp 4) rfl w.heap.size 0 rfl ca _ HR0.out.all Tryz.underlying27 rfl Ha.info ?_;simp only[Act.put,jA,jB,jC])
  |(go_at_call 31;refine (zbG Ha W0).mono ?_;rintro e w1 ⟨N1,rfl,hN1,hC1,hB1⟩))
 have HR1b:Hid (Row w1 (w.heap.size+1) cb 27):=HR1.out.below hB1 (by have:=HS.out;omega)
 have HR0b:Hid (Row w1 w.heap.size ca 27):=HR0.out.below hB1 (by have:=HS.out;omega)
 go_upto_region 3 with (first
  |(refine wpList_load_mid rfl 27 (.tmp 5) rfl (w.heap.size+1) 0 rfl cb _ HR1b.out.all Tryz.underlying27 rfl Hb.info ?_;simp only[Act.put,jA,jB,jC])
  |(go_at_call 31;refine (zbG Hb w1).mono ?_;rintro e w2 ⟨N2,rfl,hN2,hC2,hB2⟩))
 have HC1:Hid (Ch w2 N1 0 32 x):=hC1.be hB2
 have HC2:Hid (Ch w2 N2 0 32 y):=hC2
 have HB2:Hid (Below W0.heap.size W0 w2):=hB1.trans (hB2.mono hB1.size)
 have HR0c:Hid (Row w2 w.heap.size ca 27):=HR0.out.below HB2.out (by have:=HS.out;omega)
 have HR1c:Hid (Row w2 (w.heap.size+1) cb 27):=HR1.out.below HB2.out (by have:=HS.out;omega)
 have HFIN:Hid (∀ W,Below W0.heap.size W0 W->World.there W (w.heap.size+2) 0 cr.toArray.size/\Row (W.setCells (w.heap.size+2) 0 cr) (w.heap.size+2) cr 27/\Below w.heap.size w (W.setCells (w.heap.size+2) 0 cr)):=fun W hW=>by
  have hr:=HR2.out.below hW (by have:=HS.out;omega)
  have hbw:Below w.heap.size w W:=HB0.out.trans (hW.mono (by have:=HS.out;omega))
  exact⟨hr.there 0 _ (by simp [Hr.len,zaJ]),hr.over (vs:=cr) (by rw[Hr.len];rfl),zaC hbw (by omega) cr⟩
 clear hC1 hC2 hB1 hB2 HR1b HR0b HR0 HR1 hN1 hN2
 have hv:x+y<256 ^ (1+32):=by
  have h1:=HX.out
  have h2:=HY.out
  rw[show 1+32=32+1 from rfl,Nat.pow_succ]
  generalize 256 ^ 32=p at *
  omega
 have HV:Hid (x+y<256 ^ (1+32)):=hv
 have HZZ:Hid (Z=(x+y) % 256 ^ 32):=HZ.out
 clear hv
 go_upto_region 5 with (go_at_call 32;refine (plus_g x y 32 N1 N2 32 32 (by decide) HX.out HY.out w2 HC1.out HC2.out).mono ?_;rintro e w3 ⟨N3,rfl,hN3,hR3,hB3⟩)
 have HC3:Hid (Ch w3 N3 0 (1+32) (x+y)):=hR3.ch
 have HN:Hid (∀ W,Below w3.heap.size w3 W->Calls Tryz.prog 15 #[.slice (some ⟨N3,1,none⟩) 32 32] W fun e w'=>e=.returned (.agg cr.toArray)/\Below W.heap.size W w'):=fun W hW=>zeP Hr N3 1 32 32 (Nat.le_refl _) (by rw[HZZ.out];exact Nat.mod_lt _ (zkX 32)) W (.inl (by
  have h:=HC3.out.on
  rw[Nat.zero_add,<-HZZ.out] at h
  exact h.be hW))
 have HW:Hid (∀ W,Below w3.heap.size w3 W->Calls Tryz.prog 33 #[.slice (some ⟨N3,0,none⟩) 33 33] W fun e w'=>e=.returned (.bool B)/\w'=W):=fun W hW=>by
  have h:=zpP (x+y) 1 N3 33 (by decide) HV.out W (HC3.out.be hW)
  rw[HBB.out] at h
  exact h
 have HB3:Hid (Below W0.heap.size W0 w3):=HB2.out.trans (hB3.mono HB2.out.size)
 clear hR3 hB3 hN3
 go_wp2_with (first
  |(go_at_call 15;refine (HN.out w3 (Below.refl _ _)).mono ?_;rintro e w4 ⟨rfl,hB4⟩)
  |(go_at_call 33;refine (HW.out w4 hB4).mono ?_;rintro e w5 ⟨rfl,rfl⟩)
  |(refine wpList_store_mid rfl 27 (.tmp 6) (.tmp 25) rfl (w.heap.size+2) 0 cr.toArray rfl rfl (HFIN.out _ (HB3.out.trans (hB4.mono HB3.out.size))).1 Hr.info' Hr.one ?_;simp only[Act.put]))
 exact bodyPost_ret (zaM Tryz.results16 _ _ (w.heap.size+2) 27 cr (.bool B) rfl rfl (HFIN.out _ (HB3.out.trans (hB4.mono HB3.out.size))).2.1 Tryz.underlying27 zaL Hr.len) rfl ⟨rfl,(HFIN.out _ (HB3.out.trans (hB4.mono HB3.out.size))).2.2⟩
theorem sum_8 (x y:Nat) (hx:x<2 ^ 256) (hy:y<2 ^ 256) (w:World) :
 Calls Tryz.prog 16 #[.int .i64 8,.agg (vQ (dgs x 4)).toArray,.agg (vQ (dgs y 4)).toArray] w fun e w'=>e=.returned (.tuple #[.agg (vQ (dgs (x*y % 256 ^ 32) 4)).toArray,.bool (decide (x*y<2 ^ 256))])/\Below w.heap.size w w':=by
 obtain⟨ca,Ha⟩:∃ c,Wc c x:=⟨_,rfl⟩
 obtain⟨cb,Hb⟩:∃ c,Wc c y:=⟨_,rfl⟩
 obtain⟨Z,hZ⟩:∃ Z,Z=(x*y % 256 ^ 32):=⟨_,rfl⟩
 rw[<-hZ]
 have HZ:Hid (Z=(x*y % 256 ^ 32)):=hZ
 obtain⟨cr,Hr⟩:∃ c,Wc c Z:=⟨_,rfl⟩
 rw[<-show ca=vQ (dgs x 4) from Ha,<-show cb=vQ (dgs y 4) from Hb,<-show cr=vQ (dgs Z 4) from Hr]
 have HX:Hid (x<256 ^ 32):=by show x<256 ^ 32;rw[p32];exact hx
 have HY:Hid (y<256 ^ 32):=by show y<256 ^ 32;rw[p32];exact hy
 have HX2:Hid (x<2 ^ 256):=hx
 have HY2:Hid (y<2 ^ 256):=hy
 clear hZ hx hy
 obtain⟨B,hB⟩:∃ B,B=decide (x*y<2 ^ 256):=⟨_,rfl⟩
 rw[<-hB]
 have HBB:Hid (decide (x*y<2 ^ 256)=B):=hB.symm
 clear hB
 have hb0:Below w.heap.size w (((w.alloc (Obj.cells ca.toArray 27)).alloc (Obj.cells cb.toArray 27)).alloc (Obj.cells #[.int .u64 0,.int .u64 0,.int .u64 0,.int .u64 0] 27)):=(((Below.refl _ _).alloc (Nat.le_refl _) _).alloc (by simp) _).alloc (by simp;omega) _
 have r0:Row (((w.alloc (Obj.cells ca.toArray 27)).alloc (Obj.cells cb.toArray 27)).alloc (Obj.cells #[.int .u64 0,.int .u64 0,.int .u64 0,.int .u64 0] 27)) w.heap.size ca 27:=((Row.new w ca _).alloc _).alloc _
 have r1:Row (((w.alloc (Obj.cells ca.toArray 27)).alloc (Obj.cells cb.toArray 27)).alloc (Obj.cells #[.int .u64 0,.int .u64 0,.int .u64 0,.int .u64 0] 27)) (w.heap.size+1) cb 27:=(Row.new' (by simp) rfl).alloc _
 have r2:Row (((w.alloc (Obj.cells ca.toArray 27)).alloc (Obj.cells cb.toArray 27)).alloc (Obj.cells #[.int .u64 0,.int .u64 0,.int .u64 0,.int .u64 0] 27)) (w.heap.size+2) (vQ (List.replicate 4 0)) 27:=Row.new' (by simp) rfl
 obtain⟨W0,hW0⟩:∃ W,W=((w.alloc (Obj.cells ca.toArray 27)).alloc (Obj.cells cb.toArray 27)).alloc (Obj.cells #[.int .u64 0,.int .u64 0,.int .u64 0,.int .u64 0] 27):=⟨_,rfl⟩
 rw[<-hW0] at hb0 r0 r1 r2
 have hsz:W0.heap.size=w.heap.size+3:=by rw[hW0];simp
 have HS:Hid (W0.heap.size=w.heap.size+3):=hsz
 have HR2:Hid (Row W0 (w.heap.size+2) (vQ (List.replicate 4 0)) 27):=r2
 have HB0:Hid (Below w.heap.size w W0):=hb0
 have HR0:Hid (Row W0 w.heap.size ca 27):=r0
 have HR1:Hid (Row W0 (w.heap.size+1) cb 27):=r1
 clear r2 hb0 r0 r1 hsz
 go_enter Tryz.func16,Tryz.ntmps16
 go_upto_region 1 with fail
 rw[<-hW0]
 clear hW0
 go_upto_region 2 with (first
  |(refine wpList_load_mid rfl 27 (.tmp 4) rfl w.heap.size 0 rfl ca _ HR0.out.all Tryz.underlying27 rfl Ha.info ?_;simp only[Act.put,jA,jB,jC])
  |(go_at_call 31;refine (zbG Ha W0).mono ?_;rintro e w1 ⟨N1,rfl,hN1,hC1,hB1⟩))
 have HR1b:Hid (Row w1 (w.heap.size+1) cb 27):=HR1.out.below hB1 (by have:=HS.out;omega)
 have HR0b:Hid (Row w1 w.heap.size ca 27):=HR0.out.below hB1 (by have:=HS.out;omega)
 go_upto_region 3 with (first
  |(refine wpList_load_mid rfl 27 (.tmp 5) rfl (w.heap.size+1) 0 rfl cb _ HR1b.out.all Tryz.underlying27 rfl Hb.info ?_;simp only[Act.put,jA,jB,jC])
  |(go_at_call 31;refine (zbG Hb w1).mono ?_;rintro e w2 ⟨N2,rfl,hN2,hC2,hB2⟩))
 have HC1:Hid (Ch w2 N1 0 32 x):=hC1.be hB2
 have HC2:Hid (Ch w2 N2 0 32 y):=hC2
 have HB2:Hid (Below W0.heap.size W0 w2):=hB1.trans (hB2.mono hB1.size)
 have HR0c:Hid (Row w2 w.heap.size ca 27):=HR0.out.below HB2.out (by have:=HS.out;omega)
 have HR1c:Hid (Row w2 (w.heap.size+1) cb 27):=HR1.out.below HB2.out (by have:=HS.out;omega)
 have HFIN:Hid (∀ W,Below W0.heap.size W0 W->World.there W (w.heap.size+2) 0 cr.toArray.size/\Row (W.setCells (w.heap.size+2) 0 cr) (w.heap.size+2) cr 27/\Below w.heap.size w (W.setCells (w.heap.size+2) 0 cr)):=fun W hW=>by
  have hr:=HR2.out.below hW (by have:=HS.out;omega)
  have hbw:Below w.heap.size w W:=HB0.out.trans (hW.mono (by have:=HS.out;omega))
  exact⟨hr.there 0 _ (by simp [Hr.len,zaJ]),hr.over (vs:=cr) (by rw[Hr.len];rfl),zaC hbw (by omega) cr⟩
 clear hC1 hC2 hB1 hB2 HR1b HR0b HR0 HR1 hN1 hN2
 have hv:x*y<256 ^ (32+32):=by
  rw[Nat.pow_add]
  exact Nat.mul_lt_mul_of_lt_of_lt HX.out HY.out
 have HV:Hid (x*y<256 ^ (32+32)):=hv
 have HZZ:Hid (Z=(x*y) % 256 ^ 32):=HZ.out
 clear hv
 go_upto_region 12 with (go_at_call 36;refine (times_g x y N1 N2 32 32 HX.out HY.out w2 HC1.out HC2.out).mono ?_;rintro e w3 ⟨N3,rfl,hN3,hR3,hB3⟩)
 have HC3:Hid (Ch w3 N3 0 (32+32) (x*y)):=hR3.ch
 have HN:Hid (∀ W,Below w3.heap.size w3 W->Calls Tryz.prog 15 #[.slice (some ⟨N3,32,none⟩) 32 32] W fun e w'=>e=.returned (.agg cr.toArray)/\Below W.heap.size W w'):=fun W hW=>zeP Hr N3 32 32 32 (Nat.le_refl _) (by rw[HZZ.out];exact Nat.mod_lt _ (zkX 32)) W (.inl (by
  have h:=HC3.out.on
  rw[Nat.zero_add,<-HZZ.out] at h
  exact h.be hW))
 have HW:Hid (∀ W,Below w3.heap.size w3 W->Calls Tryz.prog 33 #[.slice (some ⟨N3,0,none⟩) 64 64] W fun e w'=>e=.returned (.bool B)/\w'=W):=fun W hW=>by
  have h:=zpP (x*y) 32 N3 64 (by decide) HV.out W (HC3.out.be hW)
  rw[HBB.out] at h
  exact h
 have HB3:Hid (Below W0.heap.size W0 w3):=HB2.out.trans (hB3.mono HB2.out.size)
 clear hR3 hB3 hN3
 go_wp2_with (first
  |(go_at_call 15;refine (HN.out w3 (Below.refl _ _)).mono ?_;rintro e w4 ⟨rfl,hB4⟩)
  |(go_at_call 33;refine (HW.out w4 hB4).mono ?_;rintro e w5 ⟨rfl,rfl⟩)
  |(refine wpList_store_mid rfl 27 (.tmp 6) (.tmp 46) rfl (w.heap.size+2) 0 cr.toArray rfl rfl (HFIN.out _ (HB3.out.trans (hB4.mono HB3.out.size))).1 Hr.info' Hr.one ?_;simp only[Act.put]))
 exact bodyPost_ret (zaM Tryz.results16 _ _ (w.heap.size+2) 27 cr (.bool B) rfl rfl (HFIN.out _ (HB3.out.trans (hB4.mono HB3.out.size))).2.1 Tryz.underlying27 zaL Hr.len) rfl ⟨rfl,(HFIN.out _ (HB3.out.trans (hB4.mono HB3.out.size))).2.2⟩
theorem sum_7n (x y:Nat) (hx:x<2 ^ 256) (hy:y<2 ^ 256) (h:x<y) (w:World) :
 Calls Tryz.prog 16 #[.int .i64 7,.agg (vQ (dgs x 4)).toArray,.agg (vQ (dgs y 4)).toArray] w fun e w'=>e=.returned (.tuple #[.agg (vQ (dgs 0 4)).toArray,.bool false])/\Below w.heap.size w w':=by
 obtain⟨ca,Ha⟩:∃ c,Wc c x:=⟨_,rfl⟩
 obtain⟨cb,Hb⟩:∃ c,Wc c y:=⟨_,rfl⟩
 obtain⟨Z,hZ⟩:∃ Z,Z=0:=⟨_,rfl⟩
 rw[<-hZ]
 have HZ:Hid (Z=0):=hZ
 obtain⟨cr,Hr⟩:∃ c,Wc c Z:=⟨_,rfl⟩
 rw[<-show ca=vQ (dgs x 4) from Ha,<-show cb=vQ (dgs y 4) from Hb,<-show cr=vQ (dgs Z 4) from Hr]
 have HX:Hid (x<256 ^ 32):=by show x<256 ^ 32;rw[p32];exact hx
 have HY:Hid (y<256 ^ 32):=by show y<256 ^ 32;rw[p32];exact hy
 have HX2:Hid (x<2 ^ 256):=hx
 have HY2:Hid (y<2 ^ 256):=hy
 clear hZ hx hy
 have hb0:Below w.heap.size w (((w.alloc (Obj.cells ca.toArray 27)).alloc (Obj.cells cb.toArray 27)).alloc (Obj.cells #[.int .u64 0,.int .u64 0,.int .u64 0,.int .u64 0] 27)):=(((Below.refl _ _).alloc (Nat.le_refl _) _).alloc (by simp) _).alloc (by simp;omega) _
 have r0:Row (((w.alloc (Obj.cells ca.toArray 27)).alloc (Obj.cells cb.toArray 27)).alloc (Obj.cells #[.int .u64 0,.int .u64 0,.int .u64 0,.int .u64 0] 27)) w.heap.size ca 27:=((Row.new w ca _).alloc _).alloc _
 have r1:Row (((w.alloc (Obj.cells ca.toArray 27)).alloc (Obj.cells cb.toArray 27)).alloc (Obj.cells #[.int .u64 0,.int .u64 0,.int .u64 0,.int .u64 0] 27)) (w.heap.size+1) cb 27:=(Row.new' (by simp) rfl).alloc _
 have r2:Row (((w.alloc (Obj.cells ca.toArray 27)).alloc (Obj.cells cb.toArray 27)).alloc (Obj.cells #[.int .u64 0,.int .u64 0,.int .u64 0,.int .u64 0] 27)) (w.heap.size+2) (vQ (List.replicate 4 0)) 27:=Row.new' (by simp) rfl
 obtain⟨W0,hW0⟩:∃ W,W=((w.alloc (Obj.cells ca.toArray 27)).alloc (Obj.cells cb.toArray 27)).alloc (Obj.cells #[.int .u64 0,.int .u64 0,.int .u64 0,.int .u64 0] 27):=⟨_,rfl⟩
 rw[<-hW0] at hb0 r0 r1 r2
 have hsz:W0.heap.size=w.heap.size+3:=by rw[hW0];simp
 have HS:Hid (W0.heap.size=w.heap.size+3):=hsz
 have HR2:Hid (Row W0 (w.heap.size+2) (vQ (List.replicate 4 0)) 27):=r2
 have HB0:Hid (Below w.heap.size w W0):=hb0
 have HR0:Hid (Row W0 w.heap.size ca 27):=r0
 have HR1:Hid (Row W0 (w.heap.size+1) cb 27):=r1
 clear r2 hb0 r0 r1 hsz
 go_enter Tryz.func16,Tryz.ntmps16
 go_upto_region 1 with fail
 rw[<-hW0]
 clear hW0
 go_upto_region 2 with (first
  |(refine wpList_load_mid rfl 27 (.tmp 4) rfl w.heap.size 0 rfl ca _ HR0.out.all Tryz.underlying27 rfl Ha.info ?_;simp only[Act.put,jA,jB,jC])
  |(go_at_call 31;refine (zbG Ha W0).mono ?_;rintro e w1 ⟨N1,rfl,hN1,hC1,hB1⟩))
 have HR1b:Hid (Row w1 (w.heap.size+1) cb 27):=HR1.out.below hB1 (by have:=HS.out;omega)
 have HR0b:Hid (Row w1 w.heap.size ca 27):=HR0.out.below hB1 (by have:=HS.out;omega)
 go_upto_region 3 with (first
  |(refine wpList_load_mid rfl 27 (.tmp 5) rfl (w.heap.size+1) 0 rfl cb _ HR1b.out.all Tryz.underlying27 rfl Hb.info ?_;simp only[Act.put,jA,jB,jC])
  |(go_at_call 31;refine (zbG Hb w1).mono ?_;rintro e w2 ⟨N2,rfl,hN2,hC2,hB2⟩))
 have HC1:Hid (Ch w2 N1 0 32 x):=hC1.be hB2
 have HC2:Hid (Ch w2 N2 0 32 y):=hC2
 have HB2:Hid (Below W0.heap.size W0 w2):=hB1.trans (hB2.mono hB1.size)
 have HR0c:Hid (Row w2 w.heap.size ca 27):=HR0.out.below HB2.out (by have:=HS.out;omega)
 have HR1c:Hid (Row w2 (w.heap.size+1) cb 27):=HR1.out.below HB2.out (by have:=HS.out;omega)
 have HFIN:Hid (∀ W,Below W0.heap.size W0 W->World.there W (w.heap.size+2) 0 cr.toArray.size/\Row (W.setCells (w.heap.size+2) 0 cr) (w.heap.size+2) cr 27/\Below w.heap.size w (W.setCells (w.heap.size+2) 0 cr)):=fun W hW=>by
  have hr:=HR2.out.below hW (by have:=HS.out;omega)
  have hbw:Below w.heap.size w W:=HB0.out.trans (hW.mono (by have:=HS.out;omega))
  exact⟨hr.there 0 _ (by simp [Hr.len,zaJ]),hr.over (vs:=cr) (by rw[Hr.len];rfl),zaC hbw (by omega) cr⟩
 clear hC1 hC2 hB1 hB2 HR1b HR0b HR0 HR1 hN1 hN2
 have HC:Hid (Calls _ _ _ _ _):=zgC x y 32 N1 N2 32 32 (by decide) HX.out HY.out w2 HC1.out HC2.out
 have hc:zfN x y=-1:=by
  unfold zfN
  rw[if_neg (by omega),if_pos h]
 rw[hc] at HC
 have HB3:Hid (Below W0.heap.size W0 (w2.drewN 0)):=zbA HB2.out 0
 have hz:cr=[.int .u64 0,.int .u64 0,.int .u64 0,.int .u64 0]:=by
  have q:=show cr=vQ (dgs Z 4) from Hr
  rw[q,HZ.out,zcS 0 (by decide)]
  rfl
 have he:(#[.int .u64 0,.int .u64 0,.int .u64 0,.int .u64 0]:Array Value)=cr.toArray:=by rw[hz]
 clear hc
 go_wp2_with (first
  |(go_at_call 34;refine HC.out.mono ?_;rintro e w3 ⟨rfl,k3,rfl⟩)
  |(refine wpList_store_mid rfl 27 (.tmp 6) (.tmp 34) rfl (w.heap.size+2) 0 cr.toArray rfl (by first|rfl|(show Value.agg _=Value.agg _;rw[<-he];rfl)) (HFIN.out _ (zbA HB2.out k3)).1 Hr.info' Hr.one ?_;simp only[Act.put]))
 exact bodyPost_ret (zaM Tryz.results16 _ _ (w.heap.size+2) 27 cr (.bool false) rfl rfl (HFIN.out _ (zbA HB2.out k3)).2.1 Tryz.underlying27 zaL Hr.len) rfl ⟨rfl,(HFIN.out _ (zbA HB2.out k3)).2.2⟩
theorem sum_7y (x y:Nat) (hx:x<2 ^ 256) (hy:y<2 ^ 256) (h:y<=x) (w:World) :
 Calls Tryz.prog 16 #[.int .i64 7,.agg (vQ (dgs x 4)).toArray,.agg (vQ (dgs y 4)).toArray] w fun e w'=>e=.returned (.tuple #[.agg (vQ (dgs (x-y) 4)).toArray,.bool true])/\Below w.heap.size w w':=by
 obtain⟨ca,Ha⟩:∃ c,Wc c x:=⟨_,rfl⟩
 obtain⟨cb,Hb⟩:∃ c,Wc c y:=⟨_,rfl⟩
 obtain⟨Z,hZ⟩:∃ Z,Z=(x-y):=⟨_,rfl⟩
 rw[<-hZ]
 have HZ:Hid (Z=(x-y)):=hZ
 obtain⟨cr,Hr⟩:∃ c,Wc c Z:=⟨_,rfl⟩
 rw[<-show ca=vQ (dgs x 4) from Ha,<-show cb=vQ (dgs y 4) from Hb,<-show cr=vQ (dgs Z 4) from Hr]
 have HX:Hid (x<256 ^ 32):=by show x<256 ^ 32;rw[p32];exact hx
 have HY:Hid (y<256 ^ 32):=by show y<256 ^ 32;rw[p32];exact hy
 have HX2:Hid (x<2 ^ 256):=hx
 have HY2:Hid (y<2 ^ 256):=hy
 clear hZ hx hy
 have hb0:Below w.heap.size w (((w.alloc (Obj.cells ca.toArray 27)).alloc (Obj.cells cb.toArray 27)).alloc (Obj.cells #[.int .u64 0,.int .u64 0,.int .u64 0,.int .u64 0] 27)):=(((Below.refl _ _).alloc (Nat.le_refl _) _).alloc (by simp) _).alloc (by simp;omega) _
 have r0:Row (((w.alloc (Obj.cells ca.toArray 27)).alloc (Obj.cells cb.toArray 27)).alloc (Obj.cells #[.int .u64 0,.int .u64 0,.int .u64 0,.int .u64 0] 27)) w.heap.size ca 27:=((Row.new w ca _).alloc _).alloc _
 have r1:Row (((w.alloc (Obj.cells ca.toArray 27)).alloc (Obj.cells cb.toArray 27)).alloc (Obj.cells #[.int .u64 0,.int .u64 0,.int .u64 0,.int .u64 0] 27)) (w.heap.size+1) cb 27:=(Row.new' (by simp) rfl).alloc _
 have r2:Row (((w.alloc (Obj.cells ca.toArray 27)).alloc (Obj.cells cb.toArray 27)).alloc (Obj.cells #[.int .u64 0,.int .u64 0,.int .u64 0,.int .u64 0] 27)) (w.heap.size+2) (vQ (List.replicate 4 0)) 27:=Row.new' (by simp) rfl
 obtain⟨W0,hW0⟩:∃ W,W=((w.alloc (Obj.cells ca.toArray 27)).alloc (Obj.cells cb.toArray 27)).alloc (Obj.cells #[.int .u64 0,.int .u64 0,.int .u64 0,.int .u64 0] 27):=⟨_,rfl⟩
 rw[<-hW0] at hb0 r0 r1 r2
 have hsz:W0.heap.size=w.heap.size+3:=by rw[hW0];simp
 have HS:Hid (W0.heap.size=w.heap.size+3):=hsz
 have HR2:Hid (Row W0 (w.heap.size+2) (vQ (List.replicate 4 0)) 27):=r2
 have HB0:Hid (Below w.heap.size w W0):=hb0
 have HR0:Hid (Row W0 w.heap.size ca 27):=r0
 have HR1:Hid (Row W0 (w.heap.size+1) cb 27):=r1
 clear r2 hb0 r0 r1 hsz
 go_enter Tryz.func16,Tryz.ntmps16
 go_upto_region 1 with fail
 rw[<-hW0]
 clear hW0
 go_upto_region 2 with (first
  |(refine wpList_load_mid rfl 27 (.tmp 4) rfl w.heap.size 0 rfl ca _ HR0.out.all Tryz.underlying27 rfl Ha.info ?_;simp only[Act.put,jA,jB,jC])
  |(go_at_call 31;refine (zbG Ha W0).mono ?_;rintro e w1 ⟨N1,rfl,hN1,hC1,hB1⟩))
 have HR1b:Hid (Row w1 (w.heap.size+1) cb 27):=HR1.out.below hB1 (by have:=HS.out;omega)
 have HR0b:Hid (Row w1 w.heap.size ca 27):=HR0.out.below hB1 (by have:=HS.out;omega)
 go_upto_region 3 with (first
  |(refine wpList_load_mid rfl 27 (.tmp 5) rfl (w.heap.size+1) 0 rfl cb _ HR1b.out.all Tryz.underlying27 rfl Hb.info ?_;simp only[Act.put,jA,jB,jC])
  |(go_at_call 31;refine (zbG Hb w1).mono ?_;rintro e w2 ⟨N2,rfl,hN2,hC2,hB2⟩))
 have HC1:Hid (Ch w2 N1 0 32 x):=hC1.be hB2
 have HC2:Hid (Ch w2 N2 0 32 y):=hC2
 have HB2:Hid (Below W0.heap.size W0 w2):=hB1.trans (hB2.mono hB1.size)
 have HR0c:Hid (Row w2 w.heap.size ca 27):=HR0.out.below HB2.out (by have:=HS.out;omega)
 have HR1c:Hid (Row w2 (w.heap.size+1) cb 27):=HR1.out.below HB2.out (by have:=HS.out;omega)
 have HFIN:Hid (∀ W,Below W0.heap.size W0 W->World.there W (w.heap.size+2) 0 cr.toArray.size/\Row (W.setCells (w.heap.size+2) 0 cr) (w.heap.size+2) cr 27/\Below w.heap.size w (W.setCells (w.heap.size+2) 0 cr)):=fun W hW=>by
  have hr:=HR2.out.below hW (by have:=HS.out;omega)
  have hbw:Below w.heap.size w W:=HB0.out.trans (hW.mono (by have:=HS.out;omega))
  exact⟨hr.there 0 _ (by simp [Hr.len,zaJ]),hr.over (vs:=cr) (by rw[Hr.len];rfl),zaC hbw (by omega) cr⟩
 clear hC1 hC2 hB1 hB2 HR1b HR0b HR0 HR1 hN1 hN2
 have HC:Hid (Calls _ _ _ _ _):=zgC x y 32 N1 N2 32 32 (by decide) HX.out HY.out w2 HC1.out HC2.out
 obtain⟨cv,hcv⟩:∃ cv,cv=zfN x y:=⟨_,rfl⟩
 have hc0:0<=cv:=by
  rw[hcv]
  unfold zfN
  by_cases q:x=y
  ·rw[if_pos q];decide
  ·rw[if_neg q,if_neg (by omega)];decide
 rw[<-hcv] at HC
 clear hcv
 have HL:Hid (∀ k,Calls Tryz.prog 35 #[.slice (some ⟨N1,0,none⟩) 32 32,.slice (some ⟨N2,0,none⟩) 32 32] (w2.drewN k) fun e w'=>∃ R,e=.returned (.slice (some ⟨R,0,none⟩) 32 32)/\(w2.drewN k).heap.size<=R/\Rh w' R 32 (x-y)/\Below (w2.drewN k).heap.size (w2.drewN k) w'):=fun k=>less_g x y 32 N1 N2 32 32 (by decide) h (w2.drewN k) (HC1.out.drew k) (HC2.out.drew k)
 have HZl:Hid (x-y<256 ^ 32):=Nat.lt_of_le_of_lt (Nat.sub_le _ _) HX.out
 have HN:Hid (∀ N W,Rh W N 32 (x-y)->Calls Tryz.prog 15 #[.slice (some ⟨N,0,none⟩) 32 32] W fun e w'=>e=.returned (.agg cr.toArray)/\Below W.heap.size W w'):=fun N W hW=>zeP Hr N 0 32 32 (Nat.le_refl _) (by rw[HZ.out];exact HZl.out) W (.inl (by rw[HZ.out];exact hW.ch))
 clear h
 go_wp2_with (first
  |(go_at_call 34;refine HC.out.mono ?_;rintro e w3 ⟨rfl,k3,rfl⟩)
  |(go_at_call 35;refine (HL.out _).mono ?_;rintro e w4 ⟨N4,rfl,hN4,hR4,hB4⟩)
  |(go_at_call 15;refine (HN.out N4 w4 hR4).mono ?_;rintro e w5 ⟨rfl,hB5⟩)
  |(refine wpList_store_mid rfl 27 (.tmp 6) (.tmp 38) rfl (w.heap.size+2) 0 cr.toArray rfl rfl (HFIN.out _ (((zbA HB2.out k3).trans (hB4.mono (zbA HB2.out k3).size)).trans (hB5.mono ((zbA HB2.out k3).trans (hB4.mono (zbA HB2.out k3).size)).size))).1 Hr.info' Hr.one ?_;simp only[Act.put]))
 exact bodyPost_ret (zaM Tryz.results16 _ _ (w.heap.size+2) 27 cr (.bool true) rfl rfl (HFIN.out _ (((zbA HB2.out k3).trans (hB4.mono (zbA HB2.out k3).size)).trans (hB5.mono ((zbA HB2.out k3).trans (hB4.mono (zbA HB2.out k3).size)).size))).2.1 Tryz.underlying27 zaL Hr.len) rfl ⟨rfl,(HFIN.out _ (((zbA HB2.out k3).trans (hB4.mono (zbA HB2.out k3).size)).trans (hB5.mono ((zbA HB2.out k3).trans (hB4.mono (zbA HB2.out k3).size)).size))).2.2⟩
theorem sum_11 (x y:Nat) (hx:x<2 ^ 256) (hy:y<2 ^ 256) (w:World) :
 Calls Tryz.prog 16 #[.int .i64 11,.agg (vQ (dgs x 4)).toArray,.agg (vQ (dgs y 4)).toArray] w fun e w'=>e=.returned (.tuple #[.agg (vQ (dgs (if decide (x<y)=true then 1 else 0) 4)).toArray,.bool true])/\Below w.heap.size w w':=by
 obtain⟨ca,Ha⟩:∃ c,Wc c x:=⟨_,rfl⟩
 obtain⟨cb,Hb⟩:∃ c,Wc c y:=⟨_,rfl⟩
 obtain⟨Z,hZ⟩:∃ Z,Z=(if decide (x<y)=true then 1 else 0):=⟨_,rfl⟩
 rw[<-hZ]
 have HZ:Hid (Z=(if decide (x<y)=true then 1 else 0)):=hZ
 obtain⟨cr,Hr⟩:∃ c,Wc c Z:=⟨_,rfl⟩
 rw[<-show ca=vQ (dgs x 4) from Ha,<-show cb=vQ (dgs y 4) from Hb,<-show cr=vQ (dgs Z 4) from Hr]
 have HX:Hid (x<256 ^ 32):=by show x<256 ^ 32;rw[p32];exact hx
 have HY:Hid (y<256 ^ 32):=by show y<256 ^ 32;rw[p32];exact hy
 have HX2:Hid (x<2 ^ 256):=hx
 have HY2:Hid (y<2 ^ 256):=hy
 clear hZ hx hy
 have hb0:Below w.heap.size w (((w.alloc (Obj.cells ca.toArray 27)).alloc (Obj.cells cb.toArray 27)).alloc (Obj.cells #[.int .u64 0,.int .u64 0,.int .u64 0,.int .u64 0] 27)):=(((Below.refl _ _).alloc (Nat.le_refl _) _).alloc (by simp) _).alloc (by simp;omega) _
 have r0:Row (((w.alloc (Obj.cells ca.toArray 27)).alloc (Obj.cells cb.toArray 27)).alloc (Obj.cells #[.int .u64 0,.int .u64 0,.int .u64 0,.int .u64 0] 27)) w.heap.size ca 27:=((Row.new w ca _).alloc _).alloc _
 have r1:Row (((w.alloc (Obj.cells ca.toArray 27)).alloc (Obj.cells cb.toArray 27)).alloc (Obj.cells #[.int .u64 0,.int .u64 0,.int .u64 0,.int .u64 0] 27)) (w.heap.size+1) cb 27:=(Row.new' (by simp) rfl).alloc _
 have r2:Row (((w.alloc (Obj.cells ca.toArray 27)).alloc (Obj.cells cb.toArray 27)).alloc (Obj.cells #[.int .u64 0,.int .u64 0,.int .u64 0,.int .u64 0] 27)) (w.heap.size+2) (vQ (List.replicate 4 0)) 27:=Row.new' (by simp) rfl
 obtain⟨W0,hW0⟩:∃ W,W=((w.alloc (Obj.cells ca.toArray 27)).alloc (Obj.cells cb.toArray 27)).alloc (Obj.cells #[.int .u64 0,.int .u64 0,.int .u64 0,.int .u64 0] 27):=⟨_,rfl⟩
 rw[<-hW0] at hb0 r0 r1 r2
 have hsz:W0.heap.size=w.heap.size+3:=by rw[hW0];simp
 have HS:Hid (W0.heap.size=w.heap.size+3):=hsz
 have HR2:Hid (Row W0 (w.heap.size+2) (vQ (List.replicate 4 0)) 27):=r2
 have HB0:Hid (Below w.heap.size w W0):=hb0
 have HR0:Hid (Row W0 w.heap.size ca 27):=r0
 have HR1:Hid (Row W0 (w.heap.size+1) cb 27):=r1
 clear r2 hb0 r0 r1 hsz
 go_enter Tryz.func16,Tryz.ntmps16
 go_upto_region 1 with fail
 rw[<-hW0]
 clear hW0
 go_upto_region 2 with (first
  |(refine wpList_load_mid rfl 27 (.tmp 4) rfl w.heap.size 0 rfl ca _ HR0.out.all Tryz.underlying27 rfl Ha.info ?_;simp only[Act.put,jA,jB,jC])
  |(go_at_call 31;refine (zbG Ha W0).mono ?_;rintro e w1 ⟨N1,rfl,hN1,hC1,hB1⟩))
 have HR1b:Hid (Row w1 (w.heap.size+1) cb 27):=HR1.out.below hB1 (by have:=HS.out;omega)
 have HR0b:Hid (Row w1 w.heap.size ca 27):=HR0.out.below hB1 (by have:=HS.out;omega)
 go_upto_region 3 with (first
  |(refine wpList_load_mid rfl 27 (.tmp 5) rfl (w.heap.size+1) 0 rfl cb _ HR1b.out.all Tryz.underlying27 rfl Hb.info ?_;simp only[Act.put,jA,jB,jC])
  |(go_at_call 31;refine (zbG Hb w1).mono ?_;rintro e w2 ⟨N2,rfl,hN2,hC2,hB2⟩))
 have HC1:Hid (Ch w2 N1 0 32 x):=hC1.be hB2
 have HC2:Hid (Ch w2 N2 0 32 y):=hC2
 have HB2:Hid (Below W0.heap.size W0 w2):=hB1.trans (hB2.mono hB1.size)
 have HR0c:Hid (Row w2 w.heap.size ca 27):=HR0.out.below HB2.out (by have:=HS.out;omega)
 have HR1c:Hid (Row w2 (w.heap.size+1) cb 27):=HR1.out.below HB2.out (by have:=HS.out;omega)
 have HFIN:Hid (∀ W,Below W0.heap.size W0 W->World.there W (w.heap.size+2) 0 cr.toArray.size/\Row (W.setCells (w.heap.size+2) 0 cr) (w.heap.size+2) cr 27/\Below w.heap.size w (W.setCells (w.heap.size+2) 0 cr)):=fun W hW=>by
  have hr:=HR2.out.below hW (by have:=HS.out;omega)
  have hbw:Below w.heap.size w W:=HB0.out.trans (hW.mono (by have:=HS.out;omega))
  exact⟨hr.there 0 _ (by simp [Hr.len,zaJ]),hr.over (vs:=cr) (by rw[Hr.len];rfl),zaC hbw (by omega) cr⟩
 clear hC1 hC2 hB1 hB2 HR1b HR0b HR0 HR1 hN1 hN2
 have HC:Hid (Calls _ _ _ _ _):=zgC x y 32 N1 N2 32 32 (by decide) HX.out HY.out w2 HC1.out HC2.out
 obtain⟨B,hB⟩:∃ B,B=decide (x<y):=⟨_,rfl⟩
 have HTR:Hid (∀ W,Calls Tryz.prog 17 #[.bool B] W fun e w'=>e=.returned (.agg cr.toArray)/\Below W.heap.size W w'):=fun W=>znP B (by rw[hB,<-HZ.out];exact Hr) W
 have hcb:decide (zfN x y<0)=B:=by
  rw[hB,Bool.eq_iff_iff]
  simp only[decide_eq_true_eq]
  unfold zfN
  by_cases q:x=y
  ·rw[if_pos q];omega
  ·rw[if_neg q]
   by_cases q2:x<y
   ·rw[if_pos q2];omega
   ·rw[if_neg q2];omega
 generalize zfN x y=cv at *
 clear hB
 go_wp2_with (first
  |(go_at_call 34;refine HC.out.mono ?_;rintro e w3 ⟨rfl,k3,rfl⟩)
  |(go_at_call 17;refine (HTR.out _).mono ?_;rintro e w4 ⟨rfl,hB4⟩)
  |(refine wpList_store_mid rfl 27 (.tmp 6) (.tmp 55) rfl (w.heap.size+2) 0 cr.toArray rfl rfl (HFIN.out _ ((zbA HB2.out k3).trans (hB4.mono (zbA HB2.out k3).size))).1 Hr.info' Hr.one ?_;simp only[Act.put]))
 exact bodyPost_ret (zaM Tryz.results16 _ _ (w.heap.size+2) 27 cr (.bool true) rfl rfl (HFIN.out _ ((zbA HB2.out k3).trans (hB4.mono (zbA HB2.out k3).size))).2.1 Tryz.underlying27 zaL Hr.len) rfl ⟨rfl,(HFIN.out _ ((zbA HB2.out k3).trans (hB4.mono (zbA HB2.out k3).size))).2.2⟩
theorem sum_12 (x y:Nat) (hx:x<2 ^ 256) (hy:y<2 ^ 256) (w:World) :
 Calls Tryz.prog 16 #[.int .i64 12,.agg (vQ (dgs x 4)).toArray,.agg (vQ (dgs y 4)).toArray] w fun e w'=>e=.returned (.tuple #[.agg (vQ (dgs (if decide (x=y)=true then 1 else 0) 4)).toArray,.bool true])/\Below w.heap.size w w':=by
 obtain⟨ca,Ha⟩:∃ c,Wc c x:=⟨_,rfl⟩
 obtain⟨cb,Hb⟩:∃ c,Wc c y:=⟨_,rfl⟩
 obtain⟨Z,hZ⟩:∃ Z,Z=(if decide (x=y)=true then 1 else 0):=⟨_,rfl⟩
 rw[<-hZ]
 have HZ:Hid (Z=(if decide (x=y)=true then 1 else 0)):=hZ
 obtain⟨cr,Hr⟩:∃ c,Wc c Z:=⟨_,rfl⟩
 rw[<-show ca=vQ (dgs x 4) from Ha,<-show cb=vQ (dgs y 4) from Hb,<-show cr=vQ (dgs Z 4) from Hr]
 have HX:Hid (x<256 ^ 32):=by show x<256 ^ 32;rw[p32];exact hx
 have HY:Hid (y<256 ^ 32):=by show y<256 ^ 32;rw[p32];exact hy
 have HX2:Hid (x<2 ^ 256):=hx
 have HY2:Hid (y<2 ^ 256):=hy
 clear hZ hx hy
 have hb0:Below w.heap.size w (((w.alloc (Obj.cells ca.toArray 27)).alloc (Obj.cells cb.toArray 27)).alloc (Obj.cells #[.int .u64 0,.int .u64 0,.int .u64 0,.int .u64 0] 27)):=(((Below.refl _ _).alloc (Nat.le_refl _) _).alloc (by simp) _).alloc (by simp;omega) _
 have r0:Row (((w.alloc (Obj.cells ca.toArray 27)).alloc (Obj.cells cb.toArray 27)).alloc (Obj.cells #[.int .u64 0,.int .u64 0,.int .u64 0,.int .u64 0] 27)) w.heap.size ca 27:=((Row.new w ca _).alloc _).alloc _
 have r1:Row (((w.alloc (Obj.cells ca.toArray 27)).alloc (Obj.cells cb.toArray 27)).alloc (Obj.cells #[.int .u64 0,.int .u64 0,.int .u64 0,.int .u64 0] 27)) (w.heap.size+1) cb 27:=(Row.new' (by simp) rfl).alloc _
 have r2:Row (((w.alloc (Obj.cells ca.toArray 27)).alloc (Obj.cells cb.toArray 27)).alloc (Obj.cells #[.int .u64 0,.int .u64 0,.int .u64 0,.int .u64 0] 27)) (w.heap.size+2) (vQ (List.replicate 4 0)) 27:=Row.new' (by simp) rfl
 obtain⟨W0,hW0⟩:∃ W,W=((w.alloc (Obj.cells ca.toArray 27)).alloc (Obj.cells cb.toArray 27)).alloc (Obj.cells #[.int .u64 0,.int .u64 0,.int .u64 0,.int .u64 0] 27):=⟨_,rfl⟩
 rw[<-hW0] at hb0 r0 r1 r2
 have hsz:W0.heap.size=w.heap.size+3:=by rw[hW0];simp
 have HS:Hid (W0.heap.size=w.heap.size+3):=hsz
 have HR2:Hid (Row W0 (w.heap.size+2) (vQ (List.replicate 4 0)) 27):=r2
 have HB0:Hid (Below w.heap.size w W0):=hb0
 have HR0:Hid (Row W0 w.heap.size ca 27):=r0
 have HR1:Hid (Row W0 (w.heap.size+1) cb 27):=r1
 clear r2 hb0 r0 r1 hsz
 go_enter Tryz.func16,Tryz.ntmps16
 go_upto_region 1 with fail
 rw[<-hW0]
 clear hW0
 go_upto_region 2 with (first
  |(refine wpList_load_mid rfl 27 (.tmp 4) rfl w.heap.size 0 rfl ca _ HR0.out.all Tryz.underlying27 rfl Ha.info ?_;simp only[Act.put,jA,jB,jC])
  |(go_at_call 31;refine (zbG Ha W0).mono ?_;rintro e w1 ⟨N1,rfl,hN1,hC1,hB1⟩))
 have HR1b:Hid (Row w1 (w.heap.size+1) cb 27):=HR1.out.below hB1 (by have:=HS.out;omega)
 have HR0b:Hid (Row w1 w.heap.size ca 27):=HR0.out.below hB1 (by have:=HS.out;omega)
 go_upto_region 3 with (first
  |(refine wpList_load_mid rfl 27 (.tmp 5) rfl (w.heap.size+1) 0 rfl cb _ HR1b.out.all Tryz.underlying27 rfl Hb.info ?_;simp only[Act.put,jA,jB,jC])
  |(go_at_call 31;refine (zbG Hb w1).mono ?_;rintro e w2 ⟨N2,rfl,hN2,hC2,hB2⟩))
 have HC1:Hid (Ch w2 N1 0 32 x):=hC1.be hB2
 have HC2:Hid (Ch w2 N2 0 32 y):=hC2
 have HB2:Hid (Below W0.heap.size W0 w2):=hB1.trans (hB2.mono hB1.size)
 have HR0c:Hid (Row w2 w.heap.size ca 27):=HR0.out.below HB2.out (by have:=HS.out;omega)
 have HR1c:Hid (Row w2 (w.heap.size+1) cb 27):=HR1.out.below HB2.out (by have:=HS.out;omega)
 have HFIN:Hid (∀ W,Below W0.heap.size W0 W->World.there W (w.heap.size+2) 0 cr.toArray.size/\Row (W.setCells (w.heap.size+2) 0 cr) (w.heap.size+2) cr 27/\Below w.heap.size w (W.setCells (w.heap.size+2) 0 cr)):=fun W hW=>by
  have hr:=HR2.out.below hW (by have:=HS.out;omega)
  have hbw:Below w.heap.size w W:=HB0.out.trans (hW.mono (by have:=HS.out;omega))
  exact⟨hr.there 0 _ (by simp [Hr.len,zaJ]),hr.over (vs:=cr) (by rw[Hr.len];rfl),zaC hbw (by omega) cr⟩
 clear hC1 hC2 hB1 hB2 HR1b HR0b HR0 HR1 hN1 hN2
 obtain⟨B,hB⟩:∃ B,B=decide (x=y):=⟨_,rfl⟩
 have HTR:Hid (∀ W,Calls Tryz.prog 17 #[.bool B] W fun e w'=>e=.returned (.agg cr.toArray)/\Below W.heap.size W w'):=fun W=>znP B (by rw[hB,<-HZ.out];exact Hr) W
 have HBB:Hid (decide (x=y)=B):=hB.symm
 clear hB
 go_wp2_with (first
  |(refine wpList_load_mid rfl 27 (.tmp 4) rfl w.heap.size 0 rfl ca _ HR0c.out.all Tryz.underlying27 rfl Ha.info ?_;simp only[Act.put,jA,jB,jC])
  |(refine wpList_load_mid rfl 27 (.tmp 5) rfl (w.heap.size+1) 0 rfl cb _ HR1c.out.all Tryz.underlying27 rfl Hb.info ?_;simp only[Act.put,jA,jB,jC])
  |(refine zhC rfl (.tmp 58) (.tmp 59) _ rfl Ha Hb HX2.out HY2.out rfl rfl HBB.out ?_;simp only[Act.put,jA,jB,jC])
  |(go_at_call 17;refine (HTR.out _).mono ?_;rintro e w4 ⟨rfl,hB4⟩)
  |(refine wpList_store_mid rfl 27 (.tmp 6) (.tmp 61) rfl (w.heap.size+2) 0 cr.toArray rfl rfl (HFIN.out _ (HB2.out.trans (hB4.mono HB2.out.size))).1 Hr.info' Hr.one ?_;simp only[Act.put]))
 exact bodyPost_ret (zaM Tryz.results16 _ _ (w.heap.size+2) 27 cr (.bool true) rfl rfl (HFIN.out _ (HB2.out.trans (hB4.mono HB2.out.size))).2.1 Tryz.underlying27 zaL Hr.len) rfl ⟨rfl,(HFIN.out _ (HB2.out.trans (hB4.mono HB2.out.size))).2.2⟩
theorem sum_9n (x y:Nat) (hx:x<2 ^ 256) (hy:y<2 ^ 256) (h:y=0) (w:World) :
 Calls Tryz.prog 16 #[.int .i64 9,.agg (vQ (dgs x 4)).toArray,.agg (vQ (dgs y 4)).toArray] w fun e w'=>e=.returned (.tuple #[.agg (vQ (dgs 0 4)).toArray,.bool false])/\Below w.heap.size w w':=by
 obtain⟨ca,Ha⟩:∃ c,Wc c x:=⟨_,rfl⟩
 obtain⟨cb,Hb⟩:∃ c,Wc c y:=⟨_,rfl⟩
 obtain⟨Z,hZ⟩:∃ Z,Z=0:=⟨_,rfl⟩
 rw[<-hZ]
 have HZ:Hid (Z=0):=hZ
 obtain⟨cr,Hr⟩:∃ c,Wc c Z:=⟨_,rfl⟩
 rw[<-show ca=vQ (dgs x 4) from Ha,<-show cb=vQ (dgs y 4) from Hb,<-show cr=vQ (dgs Z 4) from Hr]
 have HX:Hid (x<256 ^ 32):=by show x<256 ^ 32;rw[p32];exact hx
 have HY:Hid (y<256 ^ 32):=by show y<256 ^ 32;rw[p32];exact hy
 have HX2:Hid (x<2 ^ 256):=hx
 have HY2:Hid (y<2 ^ 256):=hy
 clear hZ hx hy
 have hb0:Below w.heap.size w (((w.alloc (Obj.cells ca.toArray 27)).alloc (Obj.cells cb.toArray 27)).alloc (Obj.cells #[.int .u64 0,.int .u64 0,.int .u64 0,.int .u64 0] 27)):=(((Below.refl _ _).alloc (Nat.le_refl _) _).alloc (by simp) _).alloc (by simp;omega) _
 have r0:Row (((w.alloc (Obj.cells ca.toArray 27)).alloc (Obj.cells cb.toArray 27)).alloc (Obj.cells #[.int .u64 0,.int .u64 0,.int .u64 0,.int .u64 0] 27)) w.heap.size ca 27:=((Row.new w ca _).alloc _).alloc _
 have r1:Row (((w.alloc (Obj.cells ca.toArray 27)).alloc (Obj.cells cb.toArray 27)).alloc (Obj.cells #[.int .u64 0,.int .u64 0,.int .u64 0,.int .u64 0] 27)) (w.heap.size+1) cb 27:=(Row.new' (by simp) rfl).alloc _
 have r2:Row (((w.alloc (Obj.cells ca.toArray 27)).alloc (Obj.cells cb.toArray 27)).alloc (Obj.cells #[.int .u64 0,.int .u64 0,.int .u64 0,.int .u64 0] 27)) (w.heap.size+2) (vQ (List.replicate 4 0)) 27:=Row.new' (by simp) rfl
 obtain⟨W0,hW0⟩:∃ W,W=((w.alloc (Obj.cells ca.toArray 27)).alloc (Obj.cells cb.toArray 27)).alloc (Obj.cells #[.int .u64 0,.int .u64 0,.int .u64 0,.int .u64 0] 27):=⟨_,rfl⟩
 rw[<-hW0] at hb0 r0 r1 r2
 have hsz:W0.heap.size=w.heap.size+3:=by rw[hW0];simp
 have HS:Hid (W0.heap.size=w.heap.size+3):=hsz
 have HR2:Hid (Row W0 (w.heap.size+2) (vQ (List.replicate 4 0)) 27):=r2
 have HB0:Hid (Below w.heap.size w W0):=hb0
 have HR0:Hid (Row W0 w.heap.size ca 27):=r0
 have HR1:Hid (Row W0 (w.heap.size+1) cb 27):=r1
 clear r2 hb0 r0 r1 hsz
 go_enter Tryz.func16,Tryz.ntmps16
 go_upto_region 1 with fail
 rw[<-hW0]
 clear hW0
 go_upto_region 2 with (first
  |(refine wpList_load_mid rfl 27 (.tmp 4) rfl w.heap.size 0 rfl ca _ HR0.out.all Tryz.underlying27 rfl Ha.info ?_;simp only[Act.put,jA,jB,jC])
  |(go_at_call 31;refine (zbG Ha W0).mono ?_;rintro e w1 ⟨N1,rfl,hN1,hC1,hB1⟩))
 have HR1b:Hid (Row w1 (w.heap.size+1) cb 27):=HR1.out.below hB1 (by have:=HS.out;omega)
 have HR0b:Hid (Row w1 w.heap.size ca 27):=HR0.out.below hB1 (by have:=HS.out;omega)
 go_upto_region 3 with (first
  |(refine wpList_load_mid rfl 27 (.tmp 5) rfl (w.heap.size+1) 0 rfl cb _ HR1b.out.all Tryz.underlying27 rfl Hb.info ?_;simp only[Act.put,jA,jB,jC])
  |(go_at_call 31;refine (zbG Hb w1).mono ?_;rintro e w2 ⟨N2,rfl,hN2,hC2,hB2⟩))
 have HC1:Hid (Ch w2 N1 0 32 x):=hC1.be hB2
 have HC2:Hid (Ch w2 N2 0 32 y):=hC2
 have HB2:Hid (Below W0.heap.size W0 w2):=hB1.trans (hB2.mono hB1.size)
 have HR0c:Hid (Row w2 w.heap.size ca 27):=HR0.out.below HB2.out (by have:=HS.out;omega)
 have HR1c:Hid (Row w2 (w.heap.size+1) cb 27):=HR1.out.below HB2.out (by have:=HS.out;omega)
 have HFIN:Hid (∀ W,Below W0.heap.size W0 W->World.there W (w.heap.size+2) 0 cr.toArray.size/\Row (W.setCells (w.heap.size+2) 0 cr) (w.heap.size+2) cr 27/\Below w.heap.size w (W.setCells (w.heap.size+2) 0 cr)):=fun W hW=>by
  have hr:=HR2.out.below hW (by have:=HS.out;omega)
  have hbw:Below w.heap.size w W:=HB0.out.trans (hW.mono (by have:=HS.out;omega))
  exact⟨hr.there 0 _ (by simp [Hr.len,zaJ]),hr.over (vs:=cr) (by rw[Hr.len];rfl),zaC hbw (by omega) cr⟩
 clear hC1 hC2 hB1 hB2 HR1b HR0b HR0 HR1 hN1 hN2
 have HNO:Hid (∀ W,Calls Tryz.prog 18 #[.agg cb.toArray] W fun e w'=>e=.returned (.bool true)/\Below W.heap.size W w'):=fun W=>zeO Hb HY2.out (by simp [h]) W
 have hz:cr=[.int .u64 0,.int .u64 0,.int .u64 0,.int .u64 0]:=by
  have q:=show cr=vQ (dgs Z 4) from Hr
  rw[q,HZ.out,zcS 0 (by decide)]
  rfl
 have he:(#[.int .u64 0,.int .u64 0,.int .u64 0,.int .u64 0]:Array Value)=cr.toArray:=by rw[hz]
 clear h
 go_wp2_with (first
  |(refine wpList_load_mid rfl 27 (.tmp 5) rfl (w.heap.size+1) 0 rfl cb _ HR1c.out.all Tryz.underlying27 rfl Hb.info ?_;simp only[Act.put,jA,jB,jC])
  |(go_at_call 18;refine (HNO.out w2).mono ?_;rintro e w3 ⟨rfl,hB3⟩)
  |(refine wpList_store_mid rfl 27 (.tmp 6) (.tmp 64) rfl (w.heap.size+2) 0 cr.toArray rfl (by first|rfl|(show Value.agg _=Value.agg _;rw[<-he];rfl)) (HFIN.out _ (HB2.out.trans (hB3.mono HB2.out.size))).1 Hr.info' Hr.one ?_;simp only[Act.put]))
 exact bodyPost_ret (zaM Tryz.results16 _ _ (w.heap.size+2) 27 cr (.bool false) rfl rfl (HFIN.out _ (HB2.out.trans (hB3.mono HB2.out.size))).2.1 Tryz.underlying27 zaL Hr.len) rfl ⟨rfl,(HFIN.out _ (HB2.out.trans (hB3.mono HB2.out.size))).2.2⟩
theorem sum_9y (x y:Nat) (hx:x<2 ^ 256) (hy:y<2 ^ 256) (h:0<y) (w:World) :
 Calls Tryz.prog 16 #[.int .i64 9,.agg (vQ (dgs x 4)).toArray,.agg (vQ (dgs y 4)).toArray] w fun e w'=>e=.returned (.tuple #[.agg (vQ (dgs (x / y) 4)).toArray,.bool true])/\Below w.heap.size w w':=by
 obtain⟨ca,Ha⟩:∃ c,Wc c x:=⟨_,rfl⟩
 obtain⟨cb,Hb⟩:∃ c,Wc c y:=⟨_,rfl⟩
 obtain⟨Z,hZ⟩:∃ Z,Z=(x / y):=⟨_,rfl⟩
 rw[<-hZ]
 have HZ:Hid (Z=(x / y)):=hZ
 obtain⟨cr,Hr⟩:∃ c,Wc c Z:=⟨_,rfl⟩
 rw[<-show ca=vQ (dgs x 4) from Ha,<-show cb=vQ (dgs y 4) from Hb,<-show cr=vQ (dgs Z 4) from Hr]
 have HX:Hid (x<256 ^ 32):=by show x<256 ^ 32;rw[p32];exact hx
 have HY:Hid (y<256 ^ 32):=by show y<256 ^ 32;rw[p32];exact hy
 have HX2:Hid (x<2 ^ 256):=hx
 have HY2:Hid (y<2 ^ 256):=hy
 clear hZ hx hy
 have hb0:Below w.heap.size w (((w.alloc (Obj.cells ca.toArray 27)).alloc (Obj.cells cb.toArray 27)).alloc (Obj.cells #[.int .u64 0,.int .u64 0,.int .u64 0,.int .u64 0] 27)):=(((Below.refl _ _).alloc (Nat.le_refl _) _).alloc (by simp) _).alloc (by simp;omega) _
 have r0:Row (((w.alloc (Obj.cells ca.toArray 27)).alloc (Obj.cells cb.toArray 27)).alloc (Obj.cells #[.int .u64 0,.int .u64 0,.int .u64 0,.int .u64 0] 27)) w.heap.size ca 27:=((Row.new w ca _).alloc _).alloc _
 have r1:Row (((w.alloc (Obj.cells ca.toArray 27)).alloc (Obj.cells cb.toArray 27)).alloc (Obj.cells #[.int .u64 0,.int .u64 0,.int .u64 0,.int .u64 0] 27)) (w.heap.size+1) cb 27:=(Row.new' (by simp) rfl).alloc _
 have r2:Row (((w.alloc (Obj.cells ca.toArray 27)).alloc (Obj.cells cb.toArray 27)).alloc (Obj.cells #[.int .u64 0,.int .u64 0,.int .u64 0,.int .u64 0] 27)) (w.heap.size+2) (vQ (List.replicate 4 0)) 27:=Row.new' (by simp) rfl
 obtain⟨W0,hW0⟩:∃ W,W=((w.alloc (Obj.cells ca.toArray 27)).alloc (Obj.cells cb.toArray 27)).alloc (Obj.cells #[.int .u64 0,.int .u64 0,.int .u64 0,.int .u64 0] 27):=⟨_,rfl⟩
 rw[<-hW0] at hb0 r0 r1 r2
 have hsz:W0.heap.size=w.heap.size+3:=by rw[hW0];simp
 have HS:Hid (W0.heap.size=w.heap.size+3):=hsz
 have HR2:Hid (Row W0 (w.heap.size+2) (vQ (List.replicate 4 0)) 27):=r2
 have HB0:Hid (Below w.heap.size w W0):=hb0
 have HR0:Hid (Row W0 w.heap.size ca 27):=r0
 have HR1:Hid (Row W0 (w.heap.size+1) cb 27):=r1
 clear r2 hb0 r0 r1 hsz
 go_enter Tryz.func16,Tryz.ntmps16
 go_upto_region 1 with fail
 rw[<-hW0]
 clear hW0
 go_upto_region 2 with (first
  |(refine wpList_load_mid rfl 27 (.tmp 4) rfl w.heap.size 0 rfl ca _ HR0.out.all Tryz.underlying27 rfl Ha.info ?_;simp only[Act.put,jA,jB,jC])
  |(go_at_call 31;refine (zbG Ha W0).mono ?_;rintro e w1 ⟨N1,rfl,hN1,hC1,hB1⟩))
 have HR1b:Hid (Row w1 (w.heap.size+1) cb 27):=HR1.out.below hB1 (by have:=HS.out;omega)
 have HR0b:Hid (Row w1 w.heap.size ca 27):=HR0.out.below hB1 (by have:=HS.out;omega)
 go_upto_region 3 with (first
  |(refine wpList_load_mid rfl 27 (.tmp 5) rfl (w.heap.size+1) 0 rfl cb _ HR1b.out.all Tryz.underlying27 rfl Hb.info ?_;simp only[Act.put,jA,jB,jC])
  |(go_at_call 31;refine (zbG Hb w1).mono ?_;rintro e w2 ⟨N2,rfl,hN2,hC2,hB2⟩))
 have HC1:Hid (Ch w2 N1 0 32 x):=hC1.be hB2
 have HC2:Hid (Ch w2 N2 0 32 y):=hC2
 have HB2:Hid (Below W0.heap.size W0 w2):=hB1.trans (hB2.mono hB1.size)
 have HR0c:Hid (Row w2 w.heap.size ca 27):=HR0.out.below HB2.out (by have:=HS.out;omega)
 have HR1c:Hid (Row w2 (w.heap.size+1) cb 27):=HR1.out.below HB2.out (by have:=HS.out;omega)
 have HFIN:Hid (∀ W,Below W0.heap.size W0 W->World.there W (w.heap.size+2) 0 cr.toArray.size/\Row (W.setCells (w.heap.size+2) 0 cr) (w.heap.size+2) cr 27/\Below w.heap.size w (W.setCells (w.heap.size+2) 0 cr)):=fun W hW=>by
  have hr:=HR2.out.below hW (by have:=HS.out;omega)
  have hbw:Below w.heap.size w W:=HB0.out.trans (hW.mono (by have:=HS.out;omega))
  exact⟨hr.there 0 _ (by simp [Hr.len,zaJ]),hr.over (vs:=cr) (by rw[Hr.len];rfl),zaC hbw (by omega) cr⟩
 clear hC1 hC2 hB1 hB2 HR1b HR0b HR0 HR1 hN1 hN2
 have HNO:Hid (∀ W,Calls Tryz.prog 18 #[.agg cb.toArray] W fun e w'=>e=.returned (.bool false)/\Below W.heap.size W w'):=fun W=>zeO Hb HY2.out (by simp;omega) W
 have HP:Hid (∀ W,Below w2.heap.size w2 W->Calls Tryz.prog 37 #[.slice (some ⟨N1,0,none⟩) 32 32,.slice (some ⟨N2,0,none⟩) 32 32] W fun e w'=>∃ q r,e=.returned (.tuple #[.slice (some ⟨q,0,none⟩) 32 32,.slice (some ⟨r,1,none⟩) 32 32])/\Ch w' q 0 32 (x / y)/\Ch w' r 1 32 (x % y)/\Below W.heap.size W w'):=fun W hW=>ztQ x y N1 N2 32 32 HX.out HY.out h W (HC1.out.be hW) (HC2.out.be hW)
 have HZl:Hid (Z<256 ^ 32):=by
  show Z<256 ^ 32
  rw[HZ.out]
  exact Nat.lt_of_le_of_lt (Nat.div_le_self _ _) HX.out
 have HN:Hid (∀ N W,Ch W N 0 32 (x / y)->Calls Tryz.prog 15 #[.slice (some ⟨N,0,none⟩) 32 32] W fun e w'=>e=.returned (.agg cr.toArray)/\Below W.heap.size W w'):=fun N W hW=>zeP Hr N 0 32 32 (Nat.le_refl _) HZl.out W (.inl (by rw[HZ.out];exact hW))
 clear h
 go_wp2_with (first
  |(refine wpList_load_mid rfl 27 (.tmp 5) rfl (w.heap.size+1) 0 rfl cb _ HR1c.out.all Tryz.underlying27 rfl Hb.info ?_;simp only[Act.put,jA,jB,jC])
  |(go_at_call 18;refine (HNO.out w2).mono ?_;rintro e w3 ⟨rfl,hB3⟩)
  |(go_at_call 37;refine (HP.out w3 hB3).mono ?_;rintro e w4 ⟨N5,N6,rfl,hC5,hC6,hB4⟩)
  |(go_at_call 15;refine (HN.out _ w4 hC5).mono ?_;rintro e w5 ⟨rfl,hB5⟩)
  |(refine wpList_store_mid rfl 27 (.tmp 6) (.tmp 74) rfl (w.heap.size+2) 0 cr.toArray rfl rfl (HFIN.out _ (((HB2.out.trans (hB3.mono HB2.out.size)).trans (hB4.mono (HB2.out.trans (hB3.mono HB2.out.size)).size)).trans (hB5.mono ((HB2.out.trans (hB3.mono HB2.out.size)).trans (hB4.mono (HB2.out.trans (hB3.mono HB2.out.size)).size)).size))).1 Hr.info' Hr.one ?_;simp only[Act.put]))
 exact bodyPost_ret (zaM Tryz.results16 _ _ (w.heap.size+2) 27 cr (.bool true) rfl rfl (HFIN.out _ (((HB2.out.trans (hB3.mono HB2.out.size)).trans (hB4.mono (HB2.out.trans (hB3.mono HB2.out.size)).size)).trans (hB5.mono ((HB2.out.trans (hB3.mono HB2.out.size)).trans (hB4.mono (HB2.out.trans (hB3.mono HB2.out.size)).size)).size))).2.1 Tryz.underlying27 zaL Hr.len) rfl ⟨rfl,(HFIN.out _ (((HB2.out.trans (hB3.mono HB2.out.size)).trans (hB4.mono (HB2.out.trans (hB3.mono HB2.out.size)).size)).trans (hB5.mono ((HB2.out.trans (hB3.mono HB2.out.size)).trans (hB4.mono (HB2.out.trans (hB3.mono HB2.out.size)).size)).size))).2.2⟩
theorem sum_10n (x y:Nat) (hx:x<2 ^ 256) (hy:y<2 ^ 256) (h:y=0) (w:World) :
 Calls Tryz.prog 16 #[.int .i64 10,.agg (vQ (dgs x 4)).toArray,.agg (vQ (dgs y 4)).toArray] w fun e w'=>e=.returned (.tuple #[.agg (vQ (dgs 0 4)).toArray,.bool false])/\Below w.heap.size w w':=by
 obtain⟨ca,Ha⟩:∃ c,Wc c x:=⟨_,rfl⟩
 obtain⟨cb,Hb⟩:∃ c,Wc c y:=⟨_,rfl⟩
 obtain⟨Z,hZ⟩:∃ Z,Z=0:=⟨_,rfl⟩
 rw[<-hZ]
 have HZ:Hid (Z=0):=hZ
 obtain⟨cr,Hr⟩:∃ c,Wc c Z:=⟨_,rfl⟩
 rw[<-show ca=vQ (dgs x 4) from Ha,<-show cb=vQ (dgs y 4) from Hb,<-show cr=vQ (dgs Z 4) from Hr]
 have HX:Hid (x<256 ^ 32):=by show x<256 ^ 32;rw[p32];exact hx
 have HY:Hid (y<256 ^ 32):=by show y<256 ^ 32;rw[p32];exact hy
 have HX2:Hid (x<2 ^ 256):=hx
 have HY2:Hid (y<2 ^ 256):=hy
 clear hZ hx hy
 have hb0:Below w.heap.size w (((w.alloc (Obj.cells ca.toArray 27)).alloc (Obj.cells cb.toArray 27)).alloc (Obj.cells #[.int .u64 0,.int .u64 0,.int .u64 0,.int .u64 0] 27)):=(((Below.refl _ _).alloc (Nat.le_refl _) _).alloc (by simp) _).alloc (by simp;omega) _
 have r0:Row (((w.alloc (Obj.cells ca.toArray 27)).alloc (Obj.cells cb.toArray 27)).alloc (Obj.cells #[.int .u64 0,.int .u64 0,.int .u64 0,.int .u64 0] 27)) w.heap.size ca 27:=((Row.new w ca _).alloc _).alloc _
 have r1:Row (((w.alloc (Obj.cells ca.toArray 27)).alloc (Obj.cells cb.toArray 27)).alloc (Obj.cells #[.int .u64 0,.int .u64 0,.int .u64 0,.int .u64 0] 27)) (w.heap.size+1) cb 27:=(Row.new' (by simp) rfl).alloc _
 have r2:Row (((w.alloc (Obj.cells ca.toArray 27)).alloc (Obj.cells cb.toArray 27)).alloc (Obj.cells #[.int .u64 0,.int .u64 0,.int .u64 0,.int .u64 0] 27)) (w.heap.size+2) (vQ (List.replicate 4 0)) 27:=Row.new' (by simp) rfl
 obtain⟨W0,hW0⟩:∃ W,W=((w.alloc (Obj.cells ca.toArray 27)).alloc (Obj.cells cb.toArray 27)).alloc (Obj.cells #[.int .u64 0,.int .u64 0,.int .u64 0,.int .u64 0] 27):=⟨_,rfl⟩
 rw[<-hW0] at hb0 r0 r1 r2
 have hsz:W0.heap.size=w.heap.size+3:=by rw[hW0];simp
 have HS:Hid (W0.heap.size=w.heap.size+3):=hsz
 have HR2:Hid (Row W0 (w.heap.size+2) (vQ (List.replicate 4 0)) 27):=r2
 have HB0:Hid (Below w.heap.size w W0):=hb0
 have HR0:Hid (Row W0 w.heap.size ca 27):=r0
 have HR1:Hid (Row W0 (w.heap.size+1) cb 27):=r1
 clear r2 hb0 r0 r1 hsz
 go_enter Tryz.func16,Tryz.ntmps16
 go_upto_region 1 with fail
 rw[<-hW0]
 clear hW0
 go_upto_region 2 with (first
  |(refine wpList_load_mid rfl 27 (.tmp 4) rfl w.heap.size 0 rfl ca _ HR0.out.all Tryz.underlying27 rfl Ha.info ?_;simp only[Act.put,jA,jB,jC])
  |(go_at_call 31;refine (zbG Ha W0).mono ?_;rintro e w1 ⟨N1,rfl,hN1,hC1,hB1⟩))
 have HR1b:Hid (Row w1 (w.heap.size+1) cb 27):=HR1.out.below hB1 (by have:=HS.out;omega)
 have HR0b:Hid (Row w1 w.heap.size ca 27):=HR0.out.below hB1 (by have:=HS.out;omega)
 go_upto_region 3 with (first
  |(refine wpList_load_mid rfl 27 (.tmp 5) rfl (w.heap.size+1) 0 rfl cb _ HR1b.out.all Tryz.underlying27 rfl Hb.info ?_;simp only[Act.put,jA,jB,jC])
  |(go_at_call 31;refine (zbG Hb w1).mono ?_;rintro e w2 ⟨N2,rfl,hN2,hC2,hB2⟩))
 have HC1:Hid (Ch w2 N1 0 32 x):=hC1.be hB2
 have HC2:Hid (Ch w2 N2 0 32 y):=hC2
 have HB2:Hid (Below W0.heap.size W0 w2):=hB1.trans (hB2.mono hB1.size)
 have HR0c:Hid (Row w2 w.heap.size ca 27):=HR0.out.below HB2.out (by have:=HS.out;omega)
 have HR1c:Hid (Row w2 (w.heap.size+1) cb 27):=HR1.out.below HB2.out (by have:=HS.out;omega)
 have HFIN:Hid (∀ W,Below W0.heap.size W0 W->World.there W (w.heap.size+2) 0 cr.toArray.size/\Row (W.setCells (w.heap.size+2) 0 cr) (w.heap.size+2) cr 27/\Below w.heap.size w (W.setCells (w.heap.size+2) 0 cr)):=fun W hW=>by
  have hr:=HR2.out.below hW (by have:=HS.out;omega)
  have hbw:Below w.heap.size w W:=HB0.out.trans (hW.mono (by have:=HS.out;omega))
  exact⟨hr.there 0 _ (by simp [Hr.len,zaJ]),hr.over (vs:=cr) (by rw[Hr.len];rfl),zaC hbw (by omega) cr⟩
 clear hC1 hC2 hB1 hB2 HR1b HR0b HR0 HR1 hN1 hN2
 have HNO:Hid (∀ W,Calls Tryz.prog 18 #[.agg cb.toArray] W fun e w'=>e=.returned (.bool true)/\Below W.heap.size W w'):=fun W=>zeO Hb HY2.out (by simp [h]) W
 have hz:cr=[.int .u64 0,.int .u64 0,.int .u64 0,.int .u64 0]:=by
  have q:=show cr=vQ (dgs Z 4) from Hr
  rw[q,HZ.out,zcS 0 (by decide)]
  rfl
 have he:(#[.int .u64 0,.int .u64 0,.int .u64 0,.int .u64 0]:Array Value)=cr.toArray:=by rw[hz]
 clear h
 go_wp2_with (first
  |(refine wpList_load_mid rfl 27 (.tmp 5) rfl (w.heap.size+1) 0 rfl cb _ HR1c.out.all Tryz.underlying27 rfl Hb.info ?_;simp only[Act.put,jA,jB,jC])
  |(go_at_call 18;refine (HNO.out w2).mono ?_;rintro e w3 ⟨rfl,hB3⟩)
  |(refine wpList_store_mid rfl 27 (.tmp 6) (.tmp 64) rfl (w.heap.size+2) 0 cr.toArray rfl (by first|rfl|(show Value.agg _=Value.agg _;rw[<-he];rfl)) (HFIN.out _ (HB2.out.trans (hB3.mono HB2.out.size))).1 Hr.info' Hr.one ?_;simp only[Act.put]))
 exact bodyPost_ret (zaM Tryz.results16 _ _ (w.heap.size+2) 27 cr (.bool false) rfl rfl (HFIN.out _ (HB2.out.trans (hB3.mono HB2.out.size))).2.1 Tryz.underlying27 zaL Hr.len) rfl ⟨rfl,(HFIN.out _ (HB2.out.trans (hB3.mono HB2.out.size))).2.2⟩
theorem sum_10y (x y:Nat) (hx:x<2 ^ 256) (hy:y<2 ^ 256) (h:0<y) (w:World) :
 Calls Tryz.prog 16 #[.int .i64 10,.agg (vQ (dgs x 4)).toArray,.agg (vQ (dgs y 4)).toArray] w fun e w'=>e=.returned (.tuple #[.agg (vQ (dgs (x % y) 4)).toArray,.bool true])/\Below w.heap.size w w':=by
 obtain⟨ca,Ha⟩:∃ c,Wc c x:=⟨_,rfl⟩
 obtain⟨cb,Hb⟩:∃ c,Wc c y:=⟨_,rfl⟩
 obtain⟨Z,hZ⟩:∃ Z,Z=(x % y):=⟨_,rfl⟩
 rw[<-hZ]
 have HZ:Hid (Z=(x % y)):=hZ
 obtain⟨cr,Hr⟩:∃ c,Wc c Z:=⟨_,rfl⟩
 rw[<-show ca=vQ (dgs x 4) from Ha,<-show cb=vQ (dgs y 4) from Hb,<-show cr=vQ (dgs Z 4) from Hr]
 have HX:Hid (x<256 ^ 32):=by show x<256 ^ 32;rw[p32];exact hx
 have HY:Hid (y<256 ^ 32):=by show y<256 ^ 32;rw[p32];exact hy
 have HX2:Hid (x<2 ^ 256):=hx
 have HY2:Hid (y<2 ^ 256):=hy
 clear hZ hx hy
 have hb0:Below w.heap.size w (((w.alloc (Obj.cells ca.toArray 27)).alloc (Obj.cells cb.toArray 27)).alloc (Obj.cells #[.int .u64 0,.int .u64 0,.int .u64 0,.int .u64 0] 27)):=(((Below.refl _ _).alloc (Nat.le_refl _) _).alloc (by simp) _).alloc (by simp;omega) _
 have r0:Row (((w.alloc (Obj.cells ca.toArray 27)).alloc (Obj.cells cb.toArray 27)).alloc (Obj.cells #[.int .u64 0,.int .u64 0,.int .u64 0,.int .u64 0] 27)) w.heap.size ca 27:=((Row.new w ca _).alloc _).alloc _
 have r1:Row (((w.alloc (Obj.cells ca.toArray 27)).alloc (Obj.cells cb.toArray 27)).alloc (Obj.cells #[.int .u64 0,.int .u64 0,.int .u64 0,.int .u64 0] 27)) (w.heap.size+1) cb 27:=(Row.new' (by simp) rfl).alloc _
 have r2:Row (((w.alloc (Obj.cells ca.toArray 27)).alloc (Obj.cells cb.toArray 27)).alloc (Obj.cells #[.int .u64 0,.int .u64 0,.int .u64 0,.int .u64 0] 27)) (w.heap.size+2) (vQ (List.replicate 4 0)) 27:=Row.new' (by simp) rfl
 obtain⟨W0,hW0⟩:∃ W,W=((w.alloc (Obj.cells ca.toArray 27)).alloc (Obj.cells cb.toArray 27)).alloc (Obj.cells #[.int .u64 0,.int .u64 0,.int .u64 0,.int .u64 0] 27):=⟨_,rfl⟩
 rw[<-hW0] at hb0 r0 r1 r2
 have hsz:W0.heap.size=w.heap.size+3:=by rw[hW0];simp
 have HS:Hid (W0.heap.size=w.heap.size+3):=hsz
 have HR2:Hid (Row W0 (w.heap.size+2) (vQ (List.replicate 4 0)) 27):=r2
 have HB0:Hid (Below w.heap.size w W0):=hb0
 have HR0:Hid (Row W0 w.heap.size ca 27):=r0
 have HR1:Hid (Row W0 (w.heap.size+1) cb 27):=r1
 clear r2 hb0 r0 r1 hsz
 go_enter Tryz.func16,Tryz.ntmps16
 go_upto_region 1 with fail
 rw[<-hW0]
 clear hW0
 go_upto_region 2 with (first
  |(refine wpList_load_mid rfl 27 (.tmp 4) rfl w.heap.size 0 rfl ca _ HR0.out.all Tryz.underlying27 rfl Ha.info ?_;simp only[Act.put,jA,jB,jC])
  |(go_at_call 31;refine (zbG Ha W0).mono ?_;rintro e w1 ⟨N1,rfl,hN1,hC1,hB1⟩))
 have HR1b:Hid (Row w1 (w.heap.size+1) cb 27):=HR1.out.below hB1 (by have:=HS.out;omega)
 have HR0b:Hid (Row w1 w.heap.size ca 27):=HR0.out.below hB1 (by have:=HS.out;omega)
 go_upto_region 3 with (first
  |(refine wpList_load_mid rfl 27 (.tmp 5) rfl (w.heap.size+1) 0 rfl cb _ HR1b.out.all Tryz.underlying27 rfl Hb.info ?_;simp only[Act.put,jA,jB,jC])
  |(go_at_call 31;refine (zbG Hb w1).mono ?_;rintro e w2 ⟨N2,rfl,hN2,hC2,hB2⟩))
 have HC1:Hid (Ch w2 N1 0 32 x):=hC1.be hB2
 have HC2:Hid (Ch w2 N2 0 32 y):=hC2
 have HB2:Hid (Below W0.heap.size W0 w2):=hB1.trans (hB2.mono hB1.size)
 have HR0c:Hid (Row w2 w.heap.size ca 27):=HR0.out.below HB2.out (by have:=HS.out;omega)
 have HR1c:Hid (Row w2 (w.heap.size+1) cb 27):=HR1.out.below HB2.out (by have:=HS.out;omega)
 have HFIN:Hid (∀ W,Below W0.heap.size W0 W->World.there W (w.heap.size+2) 0 cr.toArray.size/\Row (W.setCells (w.heap.size+2) 0 cr) (w.heap.size+2) cr 27/\Below w.heap.size w (W.setCells (w.heap.size+2) 0 cr)):=fun W hW=>by
  have hr:=HR2.out.below hW (by have:=HS.out;omega)
  have hbw:Below w.heap.size w W:=HB0.out.trans (hW.mono (by have:=HS.out;omega))
  exact⟨hr.there 0 _ (by simp [Hr.len,zaJ]),hr.over (vs:=cr) (by rw[Hr.len];rfl),zaC hbw (by omega) cr⟩
 clear hC1 hC2 hB1 hB2 HR1b HR0b HR0 HR1 hN1 hN2
 have HNO:Hid (∀ W,Calls Tryz.prog 18 #[.agg cb.toArray] W fun e w'=>e=.returned (.bool false)/\Below W.heap.size W w'):=fun W=>zeO Hb HY2.out (by simp;omega) W
 have HP:Hid (∀ W,Below w2.heap.size w2 W->Calls Tryz.prog 37 #[.slice (some ⟨N1,0,none⟩) 32 32,.slice (some ⟨N2,0,none⟩) 32 32] W fun e w'=>∃ q r,e=.returned (.tuple #[.slice (some ⟨q,0,none⟩) 32 32,.slice (some ⟨r,1,none⟩) 32 32])/\Ch w' q 0 32 (x / y)/\Ch w' r 1 32 (x % y)/\Below W.heap.size W w'):=fun W hW=>ztQ x y N1 N2 32 32 HX.out HY.out h W (HC1.out.be hW) (HC2.out.be hW)
 have HZl:Hid (Z<256 ^ 32):=by
  show Z<256 ^ 32
  rw[HZ.out]
  exact Nat.lt_trans (Nat.mod_lt _ h) HY.out
 have HN:Hid (∀ N W,Ch W N 1 32 (x % y)->Calls Tryz.prog 15 #[.slice (some ⟨N,1,none⟩) 32 32] W fun e w'=>e=.returned (.agg cr.toArray)/\Below W.heap.size W w'):=fun N W hW=>zeP Hr N 1 32 32 (Nat.le_refl _) HZl.out W (.inl (by rw[HZ.out];exact hW))
 clear h
 go_wp2_with (first
  |(refine wpList_load_mid rfl 27 (.tmp 5) rfl (w.heap.size+1) 0 rfl cb _ HR1c.out.all Tryz.underlying27 rfl Hb.info ?_;simp only[Act.put,jA,jB,jC])
  |(go_at_call 18;refine (HNO.out w2).mono ?_;rintro e w3 ⟨rfl,hB3⟩)
  |(go_at_call 37;refine (HP.out w3 hB3).mono ?_;rintro e w4 ⟨N5,N6,rfl,hC5,hC6,hB4⟩)
  |(go_at_call 15;refine (HN.out _ w4 hC6).mono ?_;rintro e w5 ⟨rfl,hB5⟩)
  |(refine wpList_store_mid rfl 27 (.tmp 6) (.tmp 76) rfl (w.heap.size+2) 0 cr.toArray rfl rfl (HFIN.out _ (((HB2.out.trans (hB3.mono HB2.out.size)).trans (hB4.mono (HB2.out.trans (hB3.mono HB2.out.size)).size)).trans (hB5.mono ((HB2.out.trans (hB3.mono HB2.out.size)).trans (hB4.mono (HB2.out.trans (hB3.mono HB2.out.size)).size)).size))).1 Hr.info' Hr.one ?_;simp only[Act.put]))
 exact bodyPost_ret (zaM Tryz.results16 _ _ (w.heap.size+2) 27 cr (.bool true) rfl rfl (HFIN.out _ (((HB2.out.trans (hB3.mono HB2.out.size)).trans (hB4.mono (HB2.out.trans (hB3.mono HB2.out.size)).size)).trans (hB5.mono ((HB2.out.trans (hB3.mono HB2.out.size)).trans (hB4.mono (HB2.out.trans (hB3.mono HB2.out.size)).size)).size))).2.1 Tryz.underlying27 zaL Hr.len) rfl ⟨rfl,(HFIN.out _ (((HB2.out.trans (hB3.mono HB2.out.size)).trans (hB4.mono (HB2.out.trans (hB3.mono HB2.out.size)).size)).trans (hB5.mono ((HB2.out.trans (hB3.mono HB2.out.size)).trans (hB4.mono (HB2.out.trans (hB3.mono HB2.out.size)).size)).size))).2.2⟩
theorem sum_c (c x y:Nat) (hx:x<2 ^ 256) (hy:y<2 ^ 256) (hc:c=6\/c=7\/c=8\/c=9\/c=10\/c=11\/c=12) (w:World) :
 Calls Tryz.prog 16 #[.int .i64 (c:Int),.agg (vQ (dgs x 4)).toArray,.agg (vQ (dgs y 4)).toArray] w fun e w'=>e=.returned (.tuple #[.agg (vQ (dgs (sm c x y).1 4)).toArray,.bool (sm c x y).2])/\Below w.heap.size w w':=by
 rcases hc with rfl|rfl|rfl|rfl|rfl|rfl|rfl
 ·exact sum_6 x y hx hy w
 ·by_cases h:x<y
  ·have e:sm 7 x y=(0,false):=by simp [sm,h]
   rw[e]
   exact sum_7n x y hx hy h w
  ·have e:sm 7 x y=(x-y,true):=by simp [sm,h]
   rw[e]
   exact sum_7y x y hx hy (by omega) w
 ·exact sum_8 x y hx hy w
 ·by_cases h:y=0
  ·have e:sm 9 x y=(0,false):=by simp [sm,h]
   rw[e]
   exact sum_9n x y hx hy h w
  ·have e:sm 9 x y=(x / y,true):=by simp [sm,h]
   rw[e]
   exact sum_9y x y hx hy (by omega) w
 ·by_cases h:y=0
  ·have e:sm 10 x y=(0,false):=by simp [sm,h]
   rw[e]
   exact sum_10n x y hx hy h w
  ·have e:sm 10 x y=(x % y,true):=by simp [sm,h]
   rw[e]
   exact sum_10y x y hx hy (by omega) w
 ·exact sum_11 x y hx hy w
 ·exact sum_12 x y hx hy w
open Sha
theorem zuZ (x:Nat) (hx:x<64):wq x=[.int .u64 (x:Int),.int .u64 0,.int .u64 0,.int .u64 0]:=zcS x (by omega)
theorem lim_big (x:Nat) (hx2:x<2 ^ 256) (hx:64<=x):0<lim x 1\/0<lim x 2\/0<lim x 3\/(lim x 1=0/\lim x 2=0/\lim x 3=0/\64<=lim x 0):=by
 by_cases h1:lim x 1=0
 ·by_cases h2:lim x 2=0
  ·by_cases h3:lim x 3=0
   ·refine .inr (.inr (.inr ⟨h1,h2,h3,?_⟩))
    have e:x=lim x 0:=by
     have:=zdY x 4 (by rw[<-znF];exact hx2)
     have e4:dgs x 4=[lim x 0,lim x 1,lim x 2,lim x 3]:=rfl
     rw[e4,h1,h2,h3] at this
     simp [num] at this
     exact this.symm
    rw[<-e]
    exact hx
   ·exact .inr (.inr (.inl (by omega)))
  ·exact .inr (.inl (by omega))
 ·exact .inl (by omega)
theorem zgQ (x:Nat) (hx:x<2 ^ 256) (w:World):Calls Tryz.prog 20 #[.agg (wq x).toArray] w fun e w'=>e=.returned (.int .i64 (if x<64 then (x:Int) else -1))/\Below w.heap.size w w':=by
 by_cases h:x<64
 ·rw[if_pos h,zuZ x h]
  have hi:(x:Int)<64:=by omega
  have hi2:¬ (64:Int)<=(x:Int):=by omega
  have eC:IntKind.i64.wrap (x:Int)=(x:Int):=by rw[IntKind.wrap_i64];omega
  clear hx h
  go_enter Tryz.func20,Tryz.ntmps20
  go_wp2
  go_ret
  exact⟨rfl,(Below.refl _ _).alloc (Nat.le_refl _) _⟩
 ·rw[if_neg h,zaQ]
  have hb:=lim_big x hx (by omega)
  generalize lim x 0=a at *
  generalize lim x 1=b at *
  generalize lim x 2=c at *
  generalize lim x 3=d at *
  clear hx h
  by_cases h1:0<b
  ·have e1:¬ (b:Int)=0:=by omega
   clear hb h1
   go_enter Tryz.func20,Tryz.ntmps20
   go_wp2
   go_ret
   exact⟨rfl,(Below.refl _ _).alloc (Nat.le_refl _) _⟩
  ·obtain rfl:b=0:=by omega
   by_cases h2:0<c
   ·have e1:¬ (c:Int)=0:=by omega
    clear hb h1 h2
    go_enter Tryz.func20,Tryz.ntmps20
    go_wp2
    go_ret
    exact⟨rfl,(Below.refl _ _).alloc (Nat.le_refl _) _⟩
   ·obtain rfl:c=0:=by omega
    by_cases h3:0<d
    ·have e1:¬ (d:Int)=0:=by omega
     clear hb h1 h2 h3
     go_enter Tryz.func20,Tryz.ntmps20
     go_wp2
     go_ret
     exact⟨rfl,(Below.refl _ _).alloc (Nat.le_refl _) _⟩
    ·obtain rfl:d=0:=by omega
     have e1:(64:Int)<=(a:Int):=by omega
     clear hb h1 h2 h3
     go_enter Tryz.func20,Tryz.ntmps20
     go_wp2
     go_ret
     exact⟨rfl,(Below.refl _ _).alloc (Nat.le_refl _) _⟩
theorem nb_ht (b:List (BitVec 8)) (hb:b.length<=32) (t:Nat) (h:t<b.length):ht (nb b) (b.length-1-t)=(b.getD t 0#8).toNat:=by
 unfold nb
 rw[zoN,znH yaK _ (by omega)]
 unfold zb
 have e1:31-(b.length-1-t)=(32-b.length)+t:=by omega
 rw[e1,List.getD_eq_getElem?_getD,List.getElem?_append_right (by rw[List.length_replicate];omega),List.length_replicate,Nat.add_sub_cancel_left,List.getElem?_map,List.getD_eq_getElem?_getD]
 cases hq:b[t]? with
 |none=>
  have:=List.getElem?_eq_none_iff.1 hq
  omega
 |some v=>rfl
theorem zoW (b:List (BitVec 8)) (hb:b.length<=32):nb b<256 ^ b.length:=by
 have h:=ztM b
 rw[<-p32] at h
 have key:∀ k,k<=32-b.length->nb b<256 ^ (32-k):=by
  intro k
  induction k with
  |zero=>intro _;exact h
  |succ k ih=>
   intro hk
   have h1:=ih (by omega)
   obtain⟨m,hm⟩:∃ m,m=31-k:=⟨_,rfl⟩
   rw[show 32-k=m+1 by omega] at h1
   rw[show 32-(k+1)=m by omega]
   have h2:=zsY _ _ h1
   have h3:ht (nb b) m=0:=by
    unfold nb
    rw[zoN,znH yaK _ (by omega)]
    unfold zb
    rw[List.getD_eq_getElem?_getD,List.getElem?_append_left (by rw[List.length_replicate];omega),List.getElem?_replicate,if_pos (by omega)]
    rfl
   rw[h3] at h2
   exact (Nat.div_eq_zero_iff_lt (zkX m)).1 h2.symm
 have:=key (32-b.length) (Nat.le_refl _)
 rwa [show 32-(32-b.length)=b.length by omega] at this
theorem zvF (b:List (BitVec 8)) (t:Nat) (h:t<b.length):(vB b)[t]?=some (.int .u8 (((b.getD t 0#8).toNat:Nat):Int)):=by
 unfold vB
 rw[List.getElem?_map,List.getD_eq_getElem?_getD]
 cases hq:b[t]? with
 |none=>
  have:=List.getElem?_eq_none_iff.1 hq
  omega
 |some v=>rfl
theorem zpQ (b:List (BitVec 8)) (hb:b.length=20) {cr:List Value} (Hr:Wc cr (nb b)) (w:World):Calls Tryz.prog 39 #[.agg (vB b).toArray] w fun e w'=>e=.returned (.agg cr.toArray)/\Below w.heap.size w w':=by
 obtain⟨D,hD⟩:∃ D,D=vB b:=⟨_,rfl⟩
 have HDg:Hid (∀ t,t<20->D[t]?=some (.int .u8 (((b.getD t 0#8).toNat:Nat):Int))):=fun t ht'=>by rw[hD];exact zvF b t (by omega)
 have HNB:Hid (∀ t,t<20->ht (nb b) (20-1-t)=(b.getD t 0#8).toNat):=fun t ht'=>by
  have:=nb_ht b (by omega) t (by omega)
  rwa [hb] at this
 have HNL:Hid (nb b<256 ^ 20):=by
  have:=zoW b (by omega)
  rwa [hb] at this
 have HF:Hid (∀ t,(b.getD t 0#8).toNat<256):=fun t=>(b.getD t 0#8).isLt
 rw[<-hD]
 clear hD
 have HN:Hid (∀ N W,Rh W N 20 (nb b)->Calls Tryz.prog 15 #[.slice (some ⟨N,0,none⟩) 20 20] W fun e w'=>e=.returned (.agg cr.toArray)/\Below W.heap.size W w'):=fun N W hW=>zeP Hr N 0 20 20 (by decide) HNL.out W (.inl hW.ch)
 go_enter Tryz.func39,Tryz.ntmps39
 go_upto_region 2 with (first
  |(refine zaF 24 rfl (.tmp 0) rfl D rfl ?_;intro X1 (R1:Hid (Row X1 w.heap.size D 24)) (B1:Hid (Below w.heap.size w X1)) (S1:Hid (X1.heap.size=w.heap.size+1));simp only[Act.put,jA,jB,jC])
  |(refine zaK rfl rfl ?_;intro X2 (R2:Hid (Row X2 X1.heap.size zW 27)) (B2:Hid (Below X1.heap.size X1 X2)) (S2:Hid (X2.heap.size=X1.heap.size+1));simp only[Act.put,jA,jB,jC])
  |(refine zbM rfl 52 (.const (.int .i64 20)) (.const (.int .i64 20)) rfl 3 20 _ _ rfl rfl rfl rfl (by decide) Tryz.underlying52 zbN ?_;simp only[Act.put,jA,jB,jC]))
 obtain⟨W3,hW3⟩:∃ W,W=X2.alloc (Obj.cells (vI (List.replicate 20 0)).toArray 3):=⟨_,rfl⟩
 rw[<-hW3]
 have hs1:=S1.out
 have hs2:=S2.out
 have HB2:Hid (Below X2.heap.size X2 W3):=by rw[hW3];exact (Below.refl _ _).alloc (Nat.le_refl _) _
 have HR1:Hid (Row W3 w.heap.size D 24):=(R1.out.below B2.out (by omega)).below HB2.out (by omega)
 have HR2:Hid (Row W3 X1.heap.size zW 27):=R2.out.below HB2.out (by omega)
 have HBW:Hid (Below w.heap.size w W3):=(B1.out.trans (B2.out.mono (by omega))).trans (HB2.out.mono (by omega))
 have HR3:Hid (Rf W3 X2.heap.size 20 (fun _=>0)):=by rw[hW3];exact Rf.start _ 20 rfl
 obtain⟨b1,hb1⟩:∃ b1,b1=X1.heap.size:=⟨_,rfl⟩
 obtain⟨b2,hb2⟩:∃ b2,b2=X2.heap.size:=⟨_,rfl⟩
 rw[<-hb1] at HR2 hs1 hs2 ⊢
 rw[<-hb2] at HR3 hs2 ⊢
 have HS:Hid (b1=w.heap.size+1/\b2=w.heap.size+2):=⟨hs1,by omega⟩
 clear hs1 hs2 hb1 hb2 hW3 S1 S2 HB2 R1 R2 B1 B2 hb
 go_wp2
 go_loopw [4] (fun v wr=>∃ t:Nat,t<=20/\v=.int .i64 (t:Int)/\Hid (Below w.heap.size w wr/\Row wr w.heap.size D 24/\Row wr b1 zW 27/\Rf wr b2 20 (fun j=>if j<t then (b.getD j 0#8).toNat else 0))) (fun v _=>20-(intOf v).toNat)
 case atStart=>exact⟨0,by omega,rfl,HBW.out,HR1.out,HR2.out,HR3.out.congr (fun j _=>if_neg (by omega))⟩
 case round=>
  obtain⟨t,ht',rfl,hI⟩:=hrel
  by_cases hlt:t<20
  ·have g1:=hI.out.2.1.cell t _ (HDg.out t hlt)
   obtain⟨g3,gf⟩:=hI.out.2.2.2.cell t hlt
   rw[if_neg (Nat.lt_irrefl _)] at g3
   have hx:=HF.out t
   have HO:Hid (∀ j,j<20->j≠t->(if j<t+1 then (b.getD j 0#8).toNat else 0)=(if j<t then (b.getD j 0#8).toNat else 0)):=fun j hj hne=>by
    by_cases hl:j<t
    ·rw[if_pos hl,if_pos (by omega)]
    ·rw[if_neg hl,if_neg (by omega)]
   obtain⟨d,hd⟩:∃ d,d=(b.getD t 0#8).toNat:=⟨_,rfl⟩
   have HD:Hid (d=(if t<t+1 then (b.getD t 0#8).toNat else 0)):=by show _=_;rw[if_pos (by omega)];exact hd
   rw[<-hd] at g1 hx
   clear hd
   have eC:IntKind.i64.wrap (d:Int)=(d:Int):=by rw[IntKind.wrap_i64];omega
   have hdi:(d:Int)<256:=by omega
   have hlt':(t:Int)<20:=by omega
   clear hx ht'
   go_wp2
   exact⟨⟨t+1,hlt,by go_num,Below.setCell hI.out.1 (by show w.heap.size<=b2;have:=HS.out;omega) _,hI.out.2.1.set_other _ _ _ (by have:=HS.out;omega),hI.out.2.2.1.set_other _ _ _ (by have:=HS.out;omega),hI.out.2.2.2.put hlt HD.out HO.out⟩,by simp [intOf];omega⟩
  ·obtain rfl:t=20:=by omega
   obtain⟨i1,i2,i3,i4⟩:=hI.out
   have HQ:Hid (Rh wr b2 20 (nb b)):=Rf.rh (i4.congr (fun j hj=>by rw[if_pos hj];exact HNB.out j hj))
   have HI1:Hid (Below w.heap.size w wr):=i1
   have HI3:Hid (Row wr b1 zW 27):=i3
   have HLT:Hid (b1<wr.heap.size):=Row.lt i3
   clear i1 i2 i3 i4 hI hlt ht'
   go_wp2_with (first
    |(go_at_call 15;refine (HN.out b2 wr HQ.out).mono ?_;rintro e X5 ⟨rfl,q⟩;have B5:Hid (Below wr.heap.size wr X5):=q;have R5:Hid (Row X5 b1 zW 27):=HI3.out.below q HLT.out;clear q)
    |(refine zaD rfl 27 (.tmp 2) (.tmp 18) rfl b1 cr zW _ rfl rfl R5.out (by rw[Hr.len];rfl) Hr.info Hr.one ?_;intro X6 (E6:Hid (X6=X5.setCells b1 0 cr)) (R6:Hid (Row X6 b1 cr 27));simp only[Act.put]))
   exact bodyPost_ret (zaW Tryz.results39 _ _ b1 27 cr rfl R6.out Tryz.underlying27 (by rw[Hr.len];exact zaL)) rfl ⟨rfl,by rw[E6.out];exact zaC (HI1.out.trans (B5.out.mono HI1.out.size)) (by have:=HS.out;omega) cr⟩
def Ru (W:World) (N:Nat) (f:Nat->Nat):Prop:=∃ l:List Nat,Row W N (vU l) 24/\l.length=20/\∀ j,j<20->l.getD j 0=f j
theorem Ru.put {W:World} {N:Nat} {f g:Nat->Nat} {t d:Nat} (h:Ru W N f) (ht':t<20) (hd:d=g t) (hg:∀ j,j<20->j≠t->g j=f j):Ru (W.setCell ⟨N,t,none⟩ (.int .u8 (d:Int))) N g:=by
 obtain⟨l,h1,h2,h3⟩:=h
 refine⟨l.set t d,?_,by rw[List.length_set,h2],fun j hj=>?_⟩
 ·have:=h1.set t (.int .u8 (d:Int))
  rw[vU_set] at this
  exact this
 ·rw[zgF _ _ _ _ (by omega)]
  by_cases e:j=t
  ·rw[if_pos e,e,hd]
  ·rw[if_neg e,hg j hj e]
   exact h3 j hj
theorem Ru.cell {W:World} {N:Nat} {f:Nat->Nat} (h:Ru W N f) (j:Nat) (hj:j<20):W.cell? ⟨N,j,none⟩=some (.int .u8 ((f j:Nat):Int))/\W.frozen? ⟨N,j,none⟩=false:=by
 obtain⟨l,h1,h2,h3⟩:=h
 have:=h1.cell j _ (zvI l j (by omega))
 rw[h3 j hj] at this
 exact⟨this,h1.thaw j⟩
theorem Ru.be {W W':World} {N B:Nat} {f:Nat->Nat} (h:Ru W N f) (hB:Below B W W') (hN:N<B):Ru W' N f:=by
 obtain⟨l,h1,h2⟩:=h
 exact⟨l,h1.below hB hN,h2⟩
theorem Ru.adr {W:World} {N x:Nat} (h:Ru W N (fun j=>ht x (19-j))):Row W N (adr x) 24:=by
 obtain⟨l,h1,h2,h3⟩:=h
 have e:vU l=Go.Proofs.YtedeobikfddmgaaGreat.adr x:=by
  unfold Go.Proofs.YtedeobikfddmgaaGreat.adr vU
  rw[<-List.map_drop]
  congr 1
  apply List.ext_getElem
  ·rw[h2,List.length_drop,zgB]
  ·intro i hi1 hi2
   have h4:=h3 i (by omega)
   have h5:(bl x).getD (12+i) 0=by8 x (32-1-(12+i)):=rx_getD _ _ _ (by omega)
   rw[<-zoN,show 32-1-(12+i)=19-i by omega] at h5
   have h6:l.getD i 0=(bl x).getD (12+i) 0:=h4.trans h5.symm
   rw[List.getD_eq_getElem?_getD,List.getD_eq_getElem?_getD,List.getElem?_eq_getElem hi1,List.getElem?_eq_getElem (by rw[zgB];omega)] at h6
   rw[List.getElem_drop]
   exact h6
 rw[<-e]
 exact h1
theorem zhR (x:Nat) (w:World):Calls Tryz.prog 21 #[.agg (wq x).toArray] w fun e w'=>e=.returned (.agg (adr x).toArray)/\Below w.heap.size w w':=by
 obtain⟨L,hL⟩:∃ L,Wc L x:=⟨_,rfl⟩
 rw[<-show L=wq x from hL]
 obtain⟨D,hD⟩:∃ D,D=adr x:=⟨_,rfl⟩
 have HDI:Hid ((Tryz.prog.info? 24).map (·.size)=some D.length/\D.length=z20.length/\D.toArray.all (·.oneCell')=true):=by rw[hD];exact⟨by rw[zdL];exact zoO,zdL _,zmN _⟩
 have HDD:Hid (D=adr x):=hD
 rw[<-hD]
 clear hD
 have HDG:Hid (∀ W,Calls Tryz.prog 31 #[.agg L.toArray] W fun e w'=>∃ N,e=.returned (.slice (some ⟨N,0,none⟩) 32 32)/\W.heap.size<=N/\Ch w' N 0 32 x/\Below W.heap.size W w'):=fun W=>zbG hL W
 have HLI:Hid ((Tryz.prog.info? 27).map (·.size)=some L.length):=hL.info
 go_enter Tryz.func21,Tryz.ntmps21
 go_upto_region 1 with (first
  |(refine zaF 27 rfl (.tmp 0) rfl L rfl ?_;intro X1 (R1:Hid (Row X1 w.heap.size L 27)) (B1:Hid (Below w.heap.size w X1)) (S1:Hid (X1.heap.size=w.heap.size+1));simp only[Act.put,jA,jB,jC])
  |(refine zeS rfl rfl ?_;intro X2 (R2:Hid (Row X2 X1.heap.size z20 24)) (B2:Hid (Below X1.heap.size X1 X2)) (S2:Hid (X2.heap.size=X1.heap.size+1));simp only[Act.put,jA,jB,jC]))
 go_upto_region 2 with (refine zeS rfl rfl ?_;intro X3 (R3:Hid (Row X3 X2.heap.size z20 24)) (B3:Hid (Below X2.heap.size X2 X3)) (S3:Hid (X3.heap.size=X2.heap.size+1));simp only[Act.put,jA,jB,jC])
 obtain⟨b1,hb1⟩:∃ b1,b1=X1.heap.size:=⟨_,rfl⟩
 obtain⟨b2,hb2⟩:∃ b2,b2=X2.heap.size:=⟨_,rfl⟩
 have HS0:Hid (b1=w.heap.size+1/\b2=w.heap.size+2/\X3.heap.size=w.heap.size+3):=by
  have hs1:=S1.out
  have hs2:=S2.out
  have hs3:=S3.out
  exact⟨by omega,by omega,by omega⟩
 have HR1:Hid (Row X3 w.heap.size L 27):=(R1.out.below B2.out (by have:=S1.out;omega)).below B3.out (by have:=S1.out;have:=S2.out;omega)
 have HBW3:Hid (Below w.heap.size w X3):=(B1.out.trans (B2.out.mono (by have:=S1.out;omega))).trans (B3.out.mono (by have:=S1.out;have:=S2.out;omega))
 have HRA:Hid (Row X3 b1 z20 24):=by
  show Row X3 b1 z20 _
  rw[hb1]
  exact R2.out.below B3.out (by have:=S2.out;omega)
 have HRB:Hid (Row X3 b2 z20 24):=by
  show Row X3 b2 z20 _
  rw[hb2]
  exact R3.out
 rw[<-hb1,<-hb2]
 clear hb1 hb2 S1 S2 S3 R1 R2 R3 B1 B2 B3
 go_upto_region 3 with (first
  |(refine wpList_load_mid rfl 27 (.tmp 1) rfl w.heap.size 0 rfl L _ HR1.out.all Tryz.underlying27 rfl HLI.out ?_;simp only[Act.put,jA,jB,jC])
  |(go_at_call 31;refine (HDG.out X3).mono ?_;rintro e X4 ⟨N,rfl,q0,q1,q2⟩;have HC4:Hid (Ch X4 N 0 32 x):=q1;have B4:Hid (Below X3.heap.size X3 X4):=q2;have HN4:Hid (X3.heap.size<=N):=q0;clear q0 q1 q2))
 have HR2:Hid (Row X4 b1 z20 24):=HRA.out.below B4.out (by have:=HS0.out;omega)
 have HR3:Hid (Ru X4 b2 (fun _=>0)):=Ru.be (B:=X3.heap.size) (W:=X3) ⟨List.replicate 20 0,HRB.out,by simp,fun j hj=>by rw[List.getD_eq_getElem?_getD,List.getElem?_replicate];split <;> rfl⟩ B4.out (by have:=HS0.out;omega)
 have HBW:Hid (Below w.heap.size w X4):=HBW3.out.trans (B4.out.mono (by have:=HS0.out;omega))
 have HS:Hid (b1=w.heap.size+1/\b2=w.heap.size+2/\w.heap.size+3<=N):=⟨HS0.out.1,HS0.out.2.1,by have:=HS0.out;have:=HN4.out;omega⟩
 clear HN4 HR1 HRA HRB HBW3 HS0 B4
 go_wp2
 go_loopw [5] (fun v wr=>∃ t:Nat,t<=20/\v=.int .i64 (t:Int)/\Hid (Below w.heap.size w wr/\Ch wr N 0 32 x/\Row wr b1 z20 24/\Ru wr b2 (fun j=>if j<t then ht x (19-j) else 0))) (fun v _=>20-(intOf v).toNat)
 case atStart=>
  refine⟨0,by omega,rfl,HBW.out,HC4.out,HR2.out,?_⟩
  obtain⟨l,h1,h2,h3⟩:=HR3.out
  exact⟨l,h1,h2,fun j hj=>(h3 j hj).trans (if_neg (Nat.not_lt_zero j)).symm⟩
 case round=>
  obtain⟨t,ht',rfl,hI⟩:=hrel
  by_cases hlt:t<20
  ·obtain⟨j,hj⟩:∃ j,j=12+t:=⟨_,rfl⟩
   have g1:=hI.out.2.1.at0 j (by omega)
   obtain⟨g3,gf⟩:=hI.out.2.2.2.cell t hlt
   rw[if_neg (Nat.lt_irrefl _)] at g3
   have hx:=zdH x (32-1-j)
   have HO:Hid (∀ j,j<20->j≠t->(if j<t+1 then ht x (19-j) else 0)=(if j<t then ht x (19-j) else 0)):=fun j hj hne=>by
    by_cases hl:j<t
    ·rw[if_pos hl,if_pos (by omega)]
    ·rw[if_neg hl,if_neg (by omega)]
   obtain⟨d,hd⟩:∃ d,d=ht x (32-1-j):=⟨_,rfl⟩
   have HD:Hid (d=(if t<t+1 then ht x (19-t) else 0)):=by show _=_;rw[if_pos (by omega),hd,show 32-1-j=19-t by omega]
   rw[<-hd] at g1 hx
   have eC:IntKind.u8.wrap (d:Int)=(d:Int):=by rw[IntKind.wrap_u8];omega
   have hdi:(d:Int)<256:=by omega
   have hlt':(t:Int)<20:=by omega
   have ej:(12:Int)+(t:Int)=(j:Int):=by omega
   have hj32:(j:Int)<32:=by omega
   clear hx ht' hd hj
   go_wp2
   exact⟨⟨t+1,hlt,by go_num,Below.setCell hI.out.1 (by show w.heap.size<=b2;have:=HS.out;omega) _,hI.out.2.1.set_other _ _ _ (by have:=HS.out;omega),hI.out.2.2.1.set_other _ _ _ (by have:=HS.out;omega),hI.out.2.2.2.put hlt HD.out HO.out⟩,by simp [intOf];omega⟩
  ·obtain rfl:t=20:=by omega
   obtain⟨i1,i2,i3,i4⟩:=hI.out
   have hq:Row wr b2 D 24:=by
    rw[HDD.out]
    refine Ru.adr ?_
    obtain⟨l,h1,h2,h3⟩:=i4
    exact⟨l,h1,h2,fun j hj=>(h3 j hj).trans (if_pos hj)⟩
   have HQ:Hid (Row wr b2 D 24):=hq
   have HI1:Hid (Below w.heap.size w wr):=i1
   have HI3:Hid (Row wr b1 z20 24):=i3
   clear i1 i2 i3 i4 hI hlt ht' hq
   go_wp2_with (first
    |(refine wpList_load_mid rfl 24 (.tmp 3) rfl b2 0 rfl D _ HQ.out.all Tryz.underlying24 rfl HDI.out.1 ?_;simp only[Act.put,jA,jB,jC])
    |(refine zaD rfl 24 (.tmp 2) (.tmp 20) rfl b1 D z20 _ rfl rfl HI3.out HDI.out.2.1 HDI.out.1 HDI.out.2.2 ?_;intro X6 (E6:Hid (X6=wr.setCells b1 0 D)) (R6:Hid (Row X6 b1 D 24));simp only[Act.put]))
   exact bodyPost_ret (zaW Tryz.results21 _ _ b1 24 D rfl R6.out Tryz.underlying24 HDI.out.1) rfl ⟨rfl,by rw[E6.out];exact zaC HI1.out (by have:=HS.out;omega) D⟩
theorem Sin.reply {w:World} {A:Option Addr} {n c:Nat} {rs:List (Nat × Int)} (h:Sin w 5 A n c (frs rs)) (hn:n=rs.length) (k:Nat) (hk:k<n):∃ g o,A=some ⟨g,o,none⟩/\w.rangeAt g (o+k*5) (ry (rs.getD k (0,0))):=by
 rcases h with ⟨h0,_⟩|⟨g,o,hA,hl,hr⟩
 ·omega
 ·refine⟨g,o,hA,fun j v hj=>?_⟩
  have hx:rs[k]?=some (rs.getD k (0,0)):=by
   rw[List.getD_eq_getElem?_getD,List.getElem?_eq_getElem (by omega)]
   rfl
  have hj5:j<5:=by have:=(List.getElem?_eq_some_iff.1 hj).1;rwa [zdS] at this
  rw[show o+k*5+j=o+(k*5+j) by omega]
  refine hr (k*5+j) v ?_
  rw[zsS rs k _ hx j hj5]
  exact hj
theorem Sin.wide {w:World} {A:Option Addr} {n c:Nat} {xs:List Nat} (h:Sin w 4 A n c (fw xs)) (hn:n=xs.length) (k:Nat) (hk:k<n):∃ g o,A=some ⟨g,o,none⟩/\w.rangeAt g (o+k*4) (wq (xs.getD k 0)):=by
 rcases h with ⟨h0,_⟩|⟨g,o,hA,hl,hr⟩
 ·omega
 ·refine⟨g,o,hA,fun j v hj=>?_⟩
  have hx:xs[k]?=some (xs.getD k 0):=by
   rw[List.getD_eq_getElem?_getD,List.getElem?_eq_getElem (by omega)]
   rfl
  have hj4:j<4:=by have:=(List.getElem?_eq_some_iff.1 hj).1;rwa [zaV] at this
  rw[show o+k*4+j=o+(k*4+j) by omega]
  refine hr (k*4+j) v ?_
  rw[fw_get xs k _ hx j hj4]
  exact hj
def pT:List Nat:=[1,1,1,1,1,1,2,2,5,10,10,2,2,2,5,5,2,2,2,2,2,2,2,2,200,200,200,500]
def wT:List Nat:=[0,1,0,1,0,0,2,2,2,2,2,2,2,1,0,1,0,0,0,0,0,0,0,0,1,2,2,3]
def vT:List Nat:=[0,0,1,0,1,0,1,1,1,1,1,1,1,1,0,0,1,1,1,1,1,1,1,1,1,0,1,0]
def wn (c:Nat):Nat:=wT.getD c 0
def lv (c:Nat):Nat:=vT.getD c 0
section
variable {ops:Array Oper} {rest:List Oper} {op:Oper} {a:Act} {w:World} {Q:Exit->Act->World->Prop}
theorem zfZ (hgd:op.guard=none) (parts:Array (Nat × Operand)) (ho:op.op=.buildSlice 52 28 parts) (PT:List Nat) (hl:28=PT.length) (hparts:parts.toList=((PT.map (fun x:Nat=>(x:Int))).zipIdx 0).map fun x=>(x.2,Operand.const (Value.int .i64 x.1)))
 (h:∀ X,Row X w.heap.size (vI PT) 3->Below w.heap.size w X->wpList Tryz.prog ops Q rest (a.put op.dst (.slice (some ⟨w.heap.size,0,none⟩) 28 28)) X):wpList Tryz.prog ops Q (op :: rest) a w:=by
 refine wpList_buildFlat hgd 52 3 28 parts ho .i64 (PT.map (fun x:Nat=>(x:Int))) Tryz.underlying52 (by kernel_rfl) (by kernel_rfl) (by rw[List.length_map];exact hl) (by decide) (by decide) hparts ?_
 have e:(PT.map (fun x:Nat=>(x:Int))).map (Value.int .i64)=vI PT:=by rw[List.map_map];rfl
 rw[e]
 exact h _ (Row.new' rfl rfl) ((Below.refl _ _).alloc (Nat.le_refl _) _)
end
theorem znG (c:Nat) (hc:c<28) (w:World):Calls Tryz.prog 12 #[.int .i64 (c:Int)] w fun e w'=>e=.returned (.int .i64 (gT c:Int))/\Below w.heap.size w w':=by
 obtain⟨v,hv⟩:∃ v,v=pT.getD c 0:=⟨_,rfl⟩
 have hc':(c:Int)<28:=by omega
 have HV:Hid (∀ X N,Row X N (vI pT) 3->X.cell? ⟨N,c,none⟩=some (.int .i64 (v:Int))):=fun X N r=>by
  have:=r.cell c _ (zfH pT c hc)
  rw[<-hv] at this
  exact this
 have HR:Hid (v=gT c):=hv
 clear hv
 go_enter Tryz.func12,Tryz.ntmps12
 go_wp2_with (refine zfZ rfl _ rfl pT rfl rfl ?_;intro X1 q1 q2;have g1:=HV.out _ _ q1;have B1:Hid (Below w.heap.size w X1):=q2;clear q1 q2;simp only[Act.put,jA,jB,jC])
 go_ret
 exact⟨by rw[<-HR.out] <;> rfl,B1.out⟩
theorem znR (c:Nat) (hc:c<28) (w:World):Calls Tryz.prog 13 #[.int .i64 (c:Int)] w fun e w'=>e=.returned (.int .i64 (wn c:Int))/\Below w.heap.size w w':=by
 obtain⟨v,hv⟩:∃ v,v=wT.getD c 0:=⟨_,rfl⟩
 have hc':(c:Int)<28:=by omega
 have HV:Hid (∀ X N,Row X N (vI wT) 3->X.cell? ⟨N,c,none⟩=some (.int .i64 (v:Int))):=fun X N r=>by
  have:=r.cell c _ (zfH wT c hc)
  rw[<-hv] at this
  exact this
 have HR:Hid (v=wn c):=hv
 clear hv
 go_enter Tryz.func13,Tryz.ntmps13
 go_wp2_with (refine zfZ rfl _ rfl wT rfl rfl ?_;intro X1 q1 q2;have g1:=HV.out _ _ q1;have B1:Hid (Below w.heap.size w X1):=q2;clear q1 q2;simp only[Act.put,jA,jB,jC])
 go_ret
 exact⟨by rw[<-HR.out] <;> rfl,B1.out⟩
theorem zkB (c:Nat) (hc:c<28) (w:World):Calls Tryz.prog 14 #[.int .i64 (c:Int)] w fun e w'=>e=.returned (.int .i64 (lv c:Int))/\Below w.heap.size w w':=by
 obtain⟨v,hv⟩:∃ v,v=vT.getD c 0:=⟨_,rfl⟩
 have hc':(c:Int)<28:=by omega
 have HV:Hid (∀ X N,Row X N (vI vT) 3->X.cell? ⟨N,c,none⟩=some (.int .i64 (v:Int))):=fun X N r=>by
  have:=r.cell c _ (zfH vT c hc)
  rw[<-hv] at this
  exact this
 have HR:Hid (v=lv c):=hv
 clear hv
 go_enter Tryz.func14,Tryz.ntmps14
 go_wp2_with (refine zfZ rfl _ rfl vT rfl rfl ?_;intro X1 q1 q2;have g1:=HV.out _ _ q1;have B1:Hid (Below w.heap.size w X1):=q2;clear q1 q2;simp only[Act.put,jA,jB,jC])
 go_ret
 exact⟨by rw[<-HR.out] <;> rfl,B1.out⟩
abbrev zYr:List Value:=[.int .u64 0,.int .u64 0,.int .u64 0,.int .u64 0,.int .i64 0]
theorem zmT:(Tryz.prog.info? tYr).map (·.size)=some 5:=by kernel_rfl
theorem zuG (p:Nat × Int):(ry p).toArray.all (·.oneCell')=true:=by
 rw[<-Array.all_toList]
 have h:=zbH p.1
 rw[<-Array.all_toList] at h
 unfold ry
 simp only[List.all_append,List.all_cons,List.all_nil,Bool.and_true]
 rw[h]
 rfl
theorem ry_zero:ry (0,0)=zYr:=by unfold ry;rw[ziW];rfl
section
variable {ops:Array Oper} {rest:List Oper} {op:Oper} {a:Act} {w:World} {Q:Exit->Act->World->Prop}
theorem zdK (hgd:op.guard=none) (ho:op.op=.alloc tYr) (h:∀ X,Row X w.heap.size zYr tYr->Below w.heap.size w X->X.heap.size=w.heap.size+1->wpList Tryz.prog ops Q rest (a.put op.dst (.pointer (some ⟨w.heap.size,0,none⟩))) X):wpList Tryz.prog ops Q (op :: rest) a w:=
 wpList_plain hgd fun _ hK=>by
  unfold Oper.wp execOp
  simp only[ho]
  go_simp
  exact hK _ _ (h _ (Row.new' (cs:=zYr) rfl (by rfl)) ((Below.refl _ _).alloc (Nat.le_refl _) _) (by simp))
theorem zjP (hgd:op.guard=none) {x y:Operand} (ho:op.op=.indexAddr tYs x y) (g o n c i:Nat) (hx:a.eval x=.slice (some ⟨g,o,none⟩) n c) (hy:a.eval y=.int .i64 (i:Int)) (hi:i<n) (h:wpList Tryz.prog ops Q rest (a.put op.dst (.pointer (some ⟨g,o+i*5,none⟩))) w):wpList Tryz.prog ops Q (op :: rest) a w:=
 wpList_plain hgd fun _ hK=>by
  have h1:¬ ((i:Int)<0):=by omega
  have h2:(i:Int)<(n:Int):=by omega
  unfold Oper.wp execOp
  simp only[ho,hx,hy]
  go_simp
  exact hK _ _ h
theorem zrA (hgd:op.guard=none) {x y:Operand} (ho:op.op=.indexAddr 28 x y) (g o n c i:Nat) (hx:a.eval x=.slice (some ⟨g,o,none⟩) n c) (hy:a.eval y=.int .i64 (i:Int)) (hi:i<n) (h:wpList Tryz.prog ops Q rest (a.put op.dst (.pointer (some ⟨g,o+i*4,none⟩))) w):wpList Tryz.prog ops Q (op :: rest) a w:=
 wpList_plain hgd fun _ hK=>by
  have h1:¬ ((i:Int)<0):=by omega
  have h2:(i:Int)<(n:Int):=by omega
  unfold Oper.wp execOp
  simp only[ho,hx,hy]
  go_simp
  exact hK _ _ h
end
theorem zvY (A:Option Addr) (n cr k:Nat) (rs:List (Nat × Int)) (hn:n=rs.length) (w:World) (hr:Sin w 5 A n cr (frs rs)) :
 Calls Tryz.prog 23 #[.slice A n cr,.int .i64 (k:Int)] w fun e w'=>e=.returned (.agg (ry (rs.getD k (0,0))).toArray)/\Below w.heap.size w w':=by
 obtain⟨D,hD⟩:∃ D,D=ry (rs.getD k (0,0)):=⟨_,rfl⟩
 have HDI:Hid ((Tryz.prog.info? tYr).map (·.size)=some D.length/\D.length=zYr.length/\D.toArray.all (·.oneCell')=true):=by rw[hD];exact⟨by rw[zdS];exact zmT,zdS _,zuG _⟩
 rw[<-hD]
 by_cases hkn:k<n
 ·obtain⟨g,o,rfl,hg⟩:=hr.reply hn k hkn
  rw[<-hD] at hg
  have HG:Hid (∀ X,Below w.heap.size w X->X.rangeAt g (o+k*5) D):=fun X hX=>zaS hg hX
  have hkn':(k:Int)<(n:Int):=by omega
  have HK:Hid (k<n):=hkn
  clear hD hr hg hn hkn
  go_enter Tryz.func23,Tryz.ntmps23
  go_wp2_with (first
   |(refine zdK rfl rfl ?_;intro X1 (R1:Hid (Row X1 w.heap.size zYr tYr)) (B1:Hid (Below w.heap.size w X1)) q3;clear q3;simp only[Act.put,jA,jB,jC])
   |(refine zjP rfl rfl g o n cr k rfl rfl HK.out ?_;simp only[Act.put,jA,jB,jC])
   |(refine wpList_load_mid rfl tYr (.tmp 11) rfl g (o+k*5) rfl D _ (HG.out X1 B1.out) Tryz.underlying64 rfl HDI.out.1 ?_;simp only[Act.put,jA,jB,jC])
   |(refine zaD rfl tYr (.tmp 4) (.tmp 12) rfl w.heap.size D zYr _ rfl rfl R1.out HDI.out.2.1 HDI.out.1 HDI.out.2.2 ?_;intro X6 (E6:Hid (X6=X1.setCells w.heap.size 0 D)) (R6:Hid (Row X6 w.heap.size D tYr));simp only[Act.put]))
  exact bodyPost_ret (zhA Tryz.results23 _ _ w.heap.size tYr D rfl R6.out Tryz.underlying64 HDI.out.1) rfl ⟨rfl,by rw[E6.out];exact zaC B1.out (Nat.le_refl _) D⟩
 ·have hz:D=zYr:=by
   rw[hD,List.getD_eq_getElem?_getD,List.getElem?_eq_none (by omega)]
   exact ry_zero
  have he:(#[.int .u64 0,.int .u64 0,.int .u64 0,.int .u64 0,.int .i64 0]:Array Value)=D.toArray:=by rw[hz]
  have hkn':¬ (k:Int)<(n:Int):=by omega
  clear hD hr hn hkn hz
  go_enter Tryz.func23,Tryz.ntmps23
  go_wp2_with (first
   |(refine zdK rfl rfl ?_;intro X1 (R1:Hid (Row X1 w.heap.size zYr tYr)) (B1:Hid (Below w.heap.size w X1)) q3;clear q3;simp only[Act.put,jA,jB,jC])
   |(refine zaD rfl tYr (.tmp 4) (.tmp 13) rfl w.heap.size D zYr _ rfl (by first|rfl|(show Value.agg _=Value.agg _;rw[<-he];rfl)) R1.out HDI.out.2.1 HDI.out.1 HDI.out.2.2 ?_;intro X6 (E6:Hid (X6=X1.setCells w.heap.size 0 D)) (R6:Hid (Row X6 w.heap.size D tYr));simp only[Act.put]))
  exact bodyPost_ret (zhA Tryz.results23 _ _ w.heap.size tYr D rfl R6.out Tryz.underlying64 HDI.out.1) rfl ⟨rfl,by rw[E6.out];exact zaC B1.out (Nat.le_refl _) D⟩
def tv (cl:Cl) (ags:List Nat) (c ni l:Nat):Nat:=
 if c=16 then ags.getD ni 0 else if c=17 then ags.length else if c=18 then nb cl.cr else if c=19 then nb cl.sf else if c=20 then cl.tok else if c=21 then cl.amt else if c=22 then cl.tm else l
theorem yaC (cl:Cl) (L:List Value) (hcl:cl.In L) (htok:cl.tok<64) (htm:cl.tm<=4611686018427387904) (A:Option Addr) (na ca:Nat) (h45:L[45]?=some (.slice A na ca)) (ags:List Nat) (hna:na=ags.length) (hna8:na<=8) (ni l:Nat) (hni:ni<256) (hl:l<=10000) (h:ni<na) (w:World) (hag:Sin w 4 A na ca (fw ags)) :
 Calls Tryz.prog 22 #[.int .i64 16,.int .i64 (ni:Int),.agg L.toArray,.int .i64 (l:Int)] w fun e w'=>e=.returned (.agg (wq (ags.getD ni 0)).toArray)/\Below w.heap.size w w':=by
 obtain⟨cr,Hr⟩:∃ cr,Wc cr (ags.getD ni 0):=⟨_,rfl⟩
 rw[<-show cr=wq (ags.getD ni 0) from Hr]
 have h45':∀ X,Row X w.heap.size L 30->X.cell? ⟨w.heap.size,45,none⟩=some (.slice A na ca):=fun X r=>r.cell 45 _ h45
 have H45:Hid _:=h45'
 have HCL:Hid (cl.In L):=hcl
 have HAG:Hid (Sin w 4 A na ca (fw ags)):=hag
 have HT:Hid (cl.tok<64/\cl.tm<=4611686018427387904/\na<=8/\na=ags.length):=⟨htok,htm,hna8,hna⟩
 have hnib:(ni:Int)<256:=by omega
 have hlb:(l:Int)<=10000:=by omega
 have hna8b:(na:Int)<=8:=by omega
 have HNI:Hid (ni<256/\l<=10000):=⟨hni,hl⟩
 clear h45' hcl hag htok htm h45 hna hna8 hni hl
 go_enter Tryz.func22,Tryz.ntmps22
 go_upto_region 1 with (first
  |(refine zaF 30 rfl (.tmp 2) rfl L rfl ?_;intro X1 (R1:Hid (Row X1 w.heap.size L 30)) (B1:Hid (Below w.heap.size w X1)) (S1:Hid (X1.heap.size=w.heap.size+1));simp only[Act.put,jA,jB,jC])
  |(refine zaK rfl rfl ?_;intro X2 (R2:Hid (Row X2 X1.heap.size zW 27)) (B2:Hid (Below X1.heap.size X1 X2)) (S2:Hid (X2.heap.size=X1.heap.size+1));simp only[Act.put,jA,jB,jC]))
 obtain⟨b1,hb1⟩:∃ b1,b1=X1.heap.size:=⟨_,rfl⟩
 have HL2:Hid (Row X2 w.heap.size L 30):=R1.out.below B2.out (by have:=S1.out;omega)
 have HZ2:Hid (Row X2 b1 zW 27):=by
  show Row X2 b1 zW _
  rw[hb1]
  exact R2.out
 have HB2:Hid (Below w.heap.size w X2):=B1.out.trans (B2.out.mono (by have:=S1.out;omega))
 have HS:Hid (b1=w.heap.size+1/\X2.heap.size=w.heap.size+2):=by
  have:=S1.out
  have:=S2.out
  exact⟨by omega,by omega⟩
 have HFIN:Hid (∀ X,Below X2.heap.size X2 X->Row X b1 zW 27/\Below w.heap.size w (X.setCells b1 0 cr)):=fun X hX=>
  ⟨HZ2.out.below hX (by have:=HS.out;omega),zaC (HB2.out.trans (hX.mono (by have:=HS.out;omega))) (by have:=HS.out;omega) cr⟩
 have g45:=H45.out X2 HL2.out
 rw[<-hb1]
 clear hb1 S1 S2 R1 R2 B1 B2
 obtain⟨g,o,hA,hg⟩:=HAG.out.wide HT.out.2.2.2 ni h
 subst hA
 rw[<-show cr=wq (ags.getD ni 0) from Hr] at hg
 have HG:Hid (X2.rangeAt g (o+ni*4) cr):=zaS hg HB2.out
 have hn:(ni:Int)<(na:Int):=by omega
 have HN:Hid (ni<na):=h
 clear hg h
 go_wp2_with (first
  |(refine zrA rfl rfl g o na ca ni rfl rfl HN.out ?_;simp only[Act.put,jA,jB,jC])
  |(refine wpList_load_mid rfl 27 (.tmp 20) rfl g (o+ni*4) rfl cr _ HG.out Tryz.underlying27 rfl Hr.info ?_;simp only[Act.put,jA,jB,jC])
  |(refine zaD rfl 27 (.tmp 8) (.tmp 21) rfl b1 cr zW _ rfl rfl (HFIN.out X2 (Below.refl _ _)).1 (by rw[Hr.len];rfl) Hr.info Hr.one ?_;intro X6 (E6:Hid (X6=X2.setCells b1 0 cr)) (R6:Hid (Row X6 b1 cr 27));simp only[Act.put]))
 exact bodyPost_ret (zaW Tryz.results22 _ _ b1 27 cr rfl R6.out Tryz.underlying27 (by rw[Hr.len];exact zaL)) rfl ⟨rfl,by rw[E6.out];exact (HFIN.out _ (Below.refl _ _)).2⟩
theorem yaD (cl:Cl) (L:List Value) (hcl:cl.In L) (htok:cl.tok<64) (htm:cl.tm<=4611686018427387904) (A:Option Addr) (na ca:Nat) (h45:L[45]?=some (.slice A na ca)) (ags:List Nat) (hna:na=ags.length) (hna8:na<=8) (ni l:Nat) (hni:ni<256) (hl:l<=10000) (h:¬ ni<na) (w:World) (hag:Sin w 4 A na ca (fw ags)) :
 Calls Tryz.prog 22 #[.int .i64 16,.int .i64 (ni:Int),.agg L.toArray,.int .i64 (l:Int)] w fun e w'=>e=.returned (.agg (wq (0)).toArray)/\Below w.heap.size w w':=by
 obtain⟨cr,Hr⟩:∃ cr,Wc cr (0):=⟨_,rfl⟩
 rw[<-show cr=wq (0) from Hr]
 have h45':∀ X,Row X w.heap.size L 30->X.cell? ⟨w.heap.size,45,none⟩=some (.slice A na ca):=fun X r=>r.cell 45 _ h45
 have H45:Hid _:=h45'
 have HCL:Hid (cl.In L):=hcl
 have HAG:Hid (Sin w 4 A na ca (fw ags)):=hag
 have HT:Hid (cl.tok<64/\cl.tm<=4611686018427387904/\na<=8/\na=ags.length):=⟨htok,htm,hna8,hna⟩
 have hnib:(ni:Int)<256:=by omega
 have hlb:(l:Int)<=10000:=by omega
 have hna8b:(na:Int)<=8:=by omega
 have HNI:Hid (ni<256/\l<=10000):=⟨hni,hl⟩
 clear h45' hcl hag htok htm h45 hna hna8 hni hl
 go_enter Tryz.func22,Tryz.ntmps22
 go_upto_region 1 with (first
  |(refine zaF 30 rfl (.tmp 2) rfl L rfl ?_;intro X1 (R1:Hid (Row X1 w.heap.size L 30)) (B1:Hid (Below w.heap.size w X1)) (S1:Hid (X1.heap.size=w.heap.size+1));simp only[Act.put,jA,jB,jC])
  |(refine zaK rfl rfl ?_;intro X2 (R2:Hid (Row X2 X1.heap.size zW 27)) (B2:Hid (Below X1.heap.size X1 X2)) (S2:Hid (X2.heap.size=X1.heap.size+1));simp only[Act.put,jA,jB,jC]))
 obtain⟨b1,hb1⟩:∃ b1,b1=X1.heap.size:=⟨_,rfl⟩
 have HL2:Hid (Row X2 w.heap.size L 30):=R1.out.below B2.out (by have:=S1.out;omega)
 have HZ2:Hid (Row X2 b1 zW 27):=by
  show Row X2 b1 zW _
  rw[hb1]
  exact R2.out
 have HB2:Hid (Below w.heap.size w X2):=B1.out.trans (B2.out.mono (by have:=S1.out;omega))
 have HS:Hid (b1=w.heap.size+1/\X2.heap.size=w.heap.size+2):=by
  have:=S1.out
  have:=S2.out
  exact⟨by omega,by omega⟩
 have HFIN:Hid (∀ X,Below X2.heap.size X2 X->Row X b1 zW 27/\Below w.heap.size w (X.setCells b1 0 cr)):=fun X hX=>
  ⟨HZ2.out.below hX (by have:=HS.out;omega),zaC (HB2.out.trans (hX.mono (by have:=HS.out;omega))) (by have:=HS.out;omega) cr⟩
 have g45:=H45.out X2 HL2.out
 rw[<-hb1]
 clear hb1 S1 S2 R1 R2 B1 B2
 have he:(#[.int .u64 0,.int .u64 0,.int .u64 0,.int .u64 0]:Array Value)=cr.toArray:=by
  have q:=show cr=vQ (dgs 0 4) from Hr
  rw[q,zcS 0 (by decide)]
  rfl
 have hn:¬ (ni:Int)<(na:Int):=by omega
 clear h
 go_wp2_with (first
  |(refine zaD rfl 27 (.tmp 8) (.tmp 22) rfl b1 cr zW _ rfl (by first|rfl|(show Value.agg _=Value.agg _;rw[<-he];rfl)) (HFIN.out X2 (Below.refl _ _)).1 (by rw[Hr.len];rfl) Hr.info Hr.one ?_;intro X6 (E6:Hid (X6=X2.setCells b1 0 cr)) (R6:Hid (Row X6 b1 cr 27));simp only[Act.put]))
 exact bodyPost_ret (zaW Tryz.results22 _ _ b1 27 cr rfl R6.out Tryz.underlying27 (by rw[Hr.len];exact zaL)) rfl ⟨rfl,by rw[E6.out];exact (HFIN.out _ (Below.refl _ _)).2⟩
theorem told_17 (cl:Cl) (L:List Value) (hcl:cl.In L) (htok:cl.tok<64) (htm:cl.tm<=4611686018427387904) (A:Option Addr) (na ca:Nat) (h45:L[45]?=some (.slice A na ca)) (ags:List Nat) (hna:na=ags.length) (hna8:na<=8) (ni l:Nat) (hni:ni<256) (hl:l<=10000) (w:World) (hag:Sin w 4 A na ca (fw ags)) :
 Calls Tryz.prog 22 #[.int .i64 17,.int .i64 (ni:Int),.agg L.toArray,.int .i64 (l:Int)] w fun e w'=>e=.returned (.agg (wq (ags.length)).toArray)/\Below w.heap.size w w':=by
 obtain⟨cr,Hr⟩:∃ cr,Wc cr (ags.length):=⟨_,rfl⟩
 rw[<-show cr=wq (ags.length) from Hr]
 have h45':∀ X,Row X w.heap.size L 30->X.cell? ⟨w.heap.size,45,none⟩=some (.slice A na ca):=fun X r=>r.cell 45 _ h45
 have H45:Hid _:=h45'
 have HCL:Hid (cl.In L):=hcl
 have HAG:Hid (Sin w 4 A na ca (fw ags)):=hag
 have HT:Hid (cl.tok<64/\cl.tm<=4611686018427387904/\na<=8/\na=ags.length):=⟨htok,htm,hna8,hna⟩
 have hnib:(ni:Int)<256:=by omega
 have hlb:(l:Int)<=10000:=by omega
 have hna8b:(na:Int)<=8:=by omega
 have HNI:Hid (ni<256/\l<=10000):=⟨hni,hl⟩
 clear h45' hcl hag htok htm h45 hna hna8 hni hl
 go_enter Tryz.func22,Tryz.ntmps22
 go_upto_region 1 with (first
  |(refine zaF 30 rfl (.tmp 2) rfl L rfl ?_;intro X1 (R1:Hid (Row X1 w.heap.size L 30)) (B1:Hid (Below w.heap.size w X1)) (S1:Hid (X1.heap.size=w.heap.size+1));simp only[Act.put,jA,jB,jC])
  |(refine zaK rfl rfl ?_;intro X2 (R2:Hid (Row X2 X1.heap.size zW 27)) (B2:Hid (Below X1.heap.size X1 X2)) (S2:Hid (X2.heap.size=X1.heap.size+1));simp only[Act.put,jA,jB,jC]))
 obtain⟨b1,hb1⟩:∃ b1,b1=X1.heap.size:=⟨_,rfl⟩
 have HL2:Hid (Row X2 w.heap.size L 30):=R1.out.below B2.out (by have:=S1.out;omega)
 have HZ2:Hid (Row X2 b1 zW 27):=by
  show Row X2 b1 zW _
  rw[hb1]
  exact R2.out
 have HB2:Hid (Below w.heap.size w X2):=B1.out.trans (B2.out.mono (by have:=S1.out;omega))
 have HS:Hid (b1=w.heap.size+1/\X2.heap.size=w.heap.size+2):=by
  have:=S1.out
  have:=S2.out
  exact⟨by omega,by omega⟩
 have HFIN:Hid (∀ X,Below X2.heap.size X2 X->Row X b1 zW 27/\Below w.heap.size w (X.setCells b1 0 cr)):=fun X hX=>
  ⟨HZ2.out.below hX (by have:=HS.out;omega),zaC (HB2.out.trans (hX.mono (by have:=HS.out;omega))) (by have:=HS.out;omega) cr⟩
 have g45:=H45.out X2 HL2.out
 rw[<-hb1]
 clear hb1 S1 S2 R1 R2 B1 B2
 have HCT:Hid (∀ X,Calls Tryz.prog 38 #[.int .i64 (na:Int)] X fun e w'=>e=.returned (.agg cr.toArray)/\Below X.heap.size X w'):=fun X=>zjS na (by have:=HT.out;omega) (by rw[HT.out.2.2.2];exact Hr) X
 go_wp2_with (first
  |(go_at_call 38;refine (HCT.out X2).mono ?_;rintro e X5 ⟨rfl,q⟩;have B5:Hid (Below X2.heap.size X2 X5):=q;clear q)
  |(refine zaD rfl 27 (.tmp 8) (.tmp 28) rfl b1 cr zW _ rfl rfl (HFIN.out X5 B5.out).1 (by rw[Hr.len];rfl) Hr.info Hr.one ?_;intro X6 (E6:Hid (X6=X5.setCells b1 0 cr)) (R6:Hid (Row X6 b1 cr 27));simp only[Act.put]))
 exact bodyPost_ret (zaW Tryz.results22 _ _ b1 27 cr rfl R6.out Tryz.underlying27 (by rw[Hr.len];exact zaL)) rfl ⟨rfl,by rw[E6.out];exact (HFIN.out _ B5.out).2⟩
theorem told_20 (cl:Cl) (L:List Value) (hcl:cl.In L) (htok:cl.tok<64) (htm:cl.tm<=4611686018427387904) (A:Option Addr) (na ca:Nat) (h45:L[45]?=some (.slice A na ca)) (ags:List Nat) (hna:na=ags.length) (hna8:na<=8) (ni l:Nat) (hni:ni<256) (hl:l<=10000) (w:World) (hag:Sin w 4 A na ca (fw ags)) :
 Calls Tryz.prog 22 #[.int .i64 20,.int .i64 (ni:Int),.agg L.toArray,.int .i64 (l:Int)] w fun e w'=>e=.returned (.agg (wq (cl.tok)).toArray)/\Below w.heap.size w w':=by
 obtain⟨cr,Hr⟩:∃ cr,Wc cr (cl.tok):=⟨_,rfl⟩
 rw[<-show cr=wq (cl.tok) from Hr]
 have h45':∀ X,Row X w.heap.size L 30->X.cell? ⟨w.heap.size,45,none⟩=some (.slice A na ca):=fun X r=>r.cell 45 _ h45
 have H45:Hid _:=h45'
 have HCL:Hid (cl.In L):=hcl
 have HAG:Hid (Sin w 4 A na ca (fw ags)):=hag
 have HT:Hid (cl.tok<64/\cl.tm<=4611686018427387904/\na<=8/\na=ags.length):=⟨htok,htm,hna8,hna⟩
 have hnib:(ni:Int)<256:=by omega
 have hlb:(l:Int)<=10000:=by omega
 have hna8b:(na:Int)<=8:=by omega
 have HNI:Hid (ni<256/\l<=10000):=⟨hni,hl⟩
 clear h45' hcl hag htok htm h45 hna hna8 hni hl
 go_enter Tryz.func22,Tryz.ntmps22
 go_upto_region 1 with (first
  |(refine zaF 30 rfl (.tmp 2) rfl L rfl ?_;intro X1 (R1:Hid (Row X1 w.heap.size L 30)) (B1:Hid (Below w.heap.size w X1)) (S1:Hid (X1.heap.size=w.heap.size+1));simp only[Act.put,jA,jB,jC])
  |(refine zaK rfl rfl ?_;intro X2 (R2:Hid (Row X2 X1.heap.size zW 27)) (B2:Hid (Below X1.heap.size X1 X2)) (S2:Hid (X2.heap.size=X1.heap.size+1));simp only[Act.put,jA,jB,jC]))
 obtain⟨b1,hb1⟩:∃ b1,b1=X1.heap.size:=⟨_,rfl⟩
 have HL2:Hid (Row X2 w.heap.size L 30):=R1.out.below B2.out (by have:=S1.out;omega)
 have HZ2:Hid (Row X2 b1 zW 27):=by
  show Row X2 b1 zW _
  rw[hb1]
  exact R2.out
 have HB2:Hid (Below w.heap.size w X2):=B1.out.trans (B2.out.mono (by have:=S1.out;omega))
 have HS:Hid (b1=w.heap.size+1/\X2.heap.size=w.heap.size+2):=by
  have:=S1.out
  have:=S2.out
  exact⟨by omega,by omega⟩
 have HFIN:Hid (∀ X,Below X2.heap.size X2 X->Row X b1 zW 27/\Below w.heap.size w (X.setCells b1 0 cr)):=fun X hX=>
  ⟨HZ2.out.below hX (by have:=HS.out;omega),zaC (HB2.out.trans (hX.mono (by have:=HS.out;omega))) (by have:=HS.out;omega) cr⟩
 have g45:=H45.out X2 HL2.out
 rw[<-hb1]
 clear hb1 S1 S2 R1 R2 B1 B2
 have g40:=HL2.out.cell 40 _ HCL.out.tok
 have HCT:Hid (∀ X,Calls Tryz.prog 38 #[.int .i64 (cl.tok:Int)] X fun e w'=>e=.returned (.agg cr.toArray)/\Below X.heap.size X w'):=fun X=>zjS cl.tok (by have:=HT.out;omega) Hr X
 go_wp2_with (first
  |(go_at_call 38;refine (HCT.out X2).mono ?_;rintro e X5 ⟨rfl,q⟩;have B5:Hid (Below X2.heap.size X2 X5):=q;clear q)
  |(refine zaD rfl 27 (.tmp 8) (.tmp 43) rfl b1 cr zW _ rfl rfl (HFIN.out X5 B5.out).1 (by rw[Hr.len];rfl) Hr.info Hr.one ?_;intro X6 (E6:Hid (X6=X5.setCells b1 0 cr)) (R6:Hid (Row X6 b1 cr 27));simp only[Act.put]))
 exact bodyPost_ret (zaW Tryz.results22 _ _ b1 27 cr rfl R6.out Tryz.underlying27 (by rw[Hr.len];exact zaL)) rfl ⟨rfl,by rw[E6.out];exact (HFIN.out _ B5.out).2⟩
theorem told_22 (cl:Cl) (L:List Value) (hcl:cl.In L) (htok:cl.tok<64) (htm:cl.tm<=4611686018427387904) (A:Option Addr) (na ca:Nat) (h45:L[45]?=some (.slice A na ca)) (ags:List Nat) (hna:na=ags.length) (hna8:na<=8) (ni l:Nat) (hni:ni<256) (hl:l<=10000) (w:World) (hag:Sin w 4 A na ca (fw ags)) :
 Calls Tryz.prog 22 #[.int .i64 22,.int .i64 (ni:Int),.agg L.toArray,.int .i64 (l:Int)] w fun e w'=>e=.returned (.agg (wq (cl.tm)).toArray)/\Below w.heap.size w w':=by
 obtain⟨cr,Hr⟩:∃ cr,Wc cr (cl.tm):=⟨_,rfl⟩
 rw[<-show cr=wq (cl.tm) from Hr]
 have h45':∀ X,Row X w.heap.size L 30->X.cell? ⟨w.heap.size,45,none⟩=some (.slice A na ca):=fun X r=>r.cell 45 _ h45
 have H45:Hid _:=h45'
 have HCL:Hid (cl.In L):=hcl
 have HAG:Hid (Sin w 4 A na ca (fw ags)):=hag
 have HT:Hid (cl.tok<64/\cl.tm<=4611686018427387904/\na<=8/\na=ags.length):=⟨htok,htm,hna8,hna⟩
 have hnib:(ni:Int)<256:=by omega
 have hlb:(l:Int)<=10000:=by omega
 have hna8b:(na:Int)<=8:=by omega
 have HNI:Hid (ni<256/\l<=10000):=⟨hni,hl⟩
 clear h45' hcl hag htok htm h45 hna hna8 hni hl
 go_enter Tryz.func22,Tryz.ntmps22
 go_upto_region 1 with (first
  |(refine zaF 30 rfl (.tmp 2) rfl L rfl ?_;intro X1 (R1:Hid (Row X1 w.heap.size L 30)) (B1:Hid (Below w.heap.size w X1)) (S1:Hid (X1.heap.size=w.heap.size+1));simp only[Act.put,jA,jB,jC])
  |(refine zaK rfl rfl ?_;intro X2 (R2:Hid (Row X2 X1.heap.size zW 27)) (B2:Hid (Below X1.heap.size X1 X2)) (S2:Hid (X2.heap.size=X1.heap.size+1));simp only[Act.put,jA,jB,jC]))
 obtain⟨b1,hb1⟩:∃ b1,b1=X1.heap.size:=⟨_,rfl⟩
 have HL2:Hid (Row X2 w.heap.size L 30):=R1.out.below B2.out (by have:=S1.out;omega)
 have HZ2:Hid (Row X2 b1 zW 27):=by
  show Row X2 b1 zW _
  rw[hb1]
  exact R2.out
 have HB2:Hid (Below w.heap.size w X2):=B1.out.trans (B2.out.mono (by have:=S1.out;omega))
 have HS:Hid (b1=w.heap.size+1/\X2.heap.size=w.heap.size+2):=by
  have:=S1.out
  have:=S2.out
  exact⟨by omega,by omega⟩
 have HFIN:Hid (∀ X,Below X2.heap.size X2 X->Row X b1 zW 27/\Below w.heap.size w (X.setCells b1 0 cr)):=fun X hX=>
  ⟨HZ2.out.below hX (by have:=HS.out;omega),zaC (HB2.out.trans (hX.mono (by have:=HS.out;omega))) (by have:=HS.out;omega) cr⟩
 have g45:=H45.out X2 HL2.out
 rw[<-hb1]
 clear hb1 S1 S2 R1 R2 B1 B2
 have g46:=HL2.out.cell 46 _ HCL.out.tm
 have HCT:Hid (∀ X,Calls Tryz.prog 38 #[.int .i64 (cl.tm:Int)] X fun e w'=>e=.returned (.agg cr.toArray)/\Below X.heap.size X w'):=fun X=>zjS cl.tm (by have:=HT.out;omega) Hr X
 go_wp2_with (first
  |(go_at_call 38;refine (HCT.out X2).mono ?_;rintro e X5 ⟨rfl,q⟩;have B5:Hid (Below X2.heap.size X2 X5):=q;clear q)
  |(refine zaD rfl 27 (.tmp 8) (.tmp 52) rfl b1 cr zW _ rfl rfl (HFIN.out X5 B5.out).1 (by rw[Hr.len];rfl) Hr.info Hr.one ?_;intro X6 (E6:Hid (X6=X5.setCells b1 0 cr)) (R6:Hid (Row X6 b1 cr 27));simp only[Act.put]))
 exact bodyPost_ret (zaW Tryz.results22 _ _ b1 27 cr rfl R6.out Tryz.underlying27 (by rw[Hr.len];exact zaL)) rfl ⟨rfl,by rw[E6.out];exact (HFIN.out _ B5.out).2⟩
theorem told_23 (cl:Cl) (L:List Value) (hcl:cl.In L) (htok:cl.tok<64) (htm:cl.tm<=4611686018427387904) (A:Option Addr) (na ca:Nat) (h45:L[45]?=some (.slice A na ca)) (ags:List Nat) (hna:na=ags.length) (hna8:na<=8) (ni l:Nat) (hni:ni<256) (hl:l<=10000) (w:World) (hag:Sin w 4 A na ca (fw ags)) :
 Calls Tryz.prog 22 #[.int .i64 23,.int .i64 (ni:Int),.agg L.toArray,.int .i64 (l:Int)] w fun e w'=>e=.returned (.agg (wq (l)).toArray)/\Below w.heap.size w w':=by
 obtain⟨cr,Hr⟩:∃ cr,Wc cr (l):=⟨_,rfl⟩
 rw[<-show cr=wq (l) from Hr]
 have h45':∀ X,Row X w.heap.size L 30->X.cell? ⟨w.heap.size,45,none⟩=some (.slice A na ca):=fun X r=>r.cell 45 _ h45
 have H45:Hid _:=h45'
 have HCL:Hid (cl.In L):=hcl
 have HAG:Hid (Sin w 4 A na ca (fw ags)):=hag
 have HT:Hid (cl.tok<64/\cl.tm<=4611686018427387904/\na<=8/\na=ags.length):=⟨htok,htm,hna8,hna⟩
 have hnib:(ni:Int)<256:=by omega
 have hlb:(l:Int)<=10000:=by omega
 have hna8b:(na:Int)<=8:=by omega
 have HNI:Hid (ni<256/\l<=10000):=⟨hni,hl⟩
 clear h45' hcl hag htok htm h45 hna hna8 hni hl
 go_enter Tryz.func22,Tryz.ntmps22
 go_upto_region 1 with (first
  |(refine zaF 30 rfl (.tmp 2) rfl L rfl ?_;intro X1 (R1:Hid (Row X1 w.heap.size L 30)) (B1:Hid (Below w.heap.size w X1)) (S1:Hid (X1.heap.size=w.heap.size+1));simp only[Act.put,jA,jB,jC])
  |(refine zaK rfl rfl ?_;intro X2 (R2:Hid (Row X2 X1.heap.size zW 27)) (B2:Hid (Below X1.heap.size X1 X2)) (S2:Hid (X2.heap.size=X1.heap.size+1));simp only[Act.put,jA,jB,jC]))
 obtain⟨b1,hb1⟩:∃ b1,b1=X1.heap.size:=⟨_,rfl⟩
 have HL2:Hid (Row X2 w.heap.size L 30):=R1.out.below B2.out (by have:=S1.out;omega)
 have HZ2:Hid (Row X2 b1 zW 27):=by
  show Row X2 b1 zW _
  rw[hb1]
  exact R2.out
 have HB2:Hid (Below w.heap.size w X2):=B1.out.trans (B2.out.mono (by have:=S1.out;omega))
 have HS:Hid (b1=w.heap.size+1/\X2.heap.size=w.heap.size+2):=by
  have:=S1.out
  have:=S2.out
  exact⟨by omega,by omega⟩
 have HFIN:Hid (∀ X,Below X2.heap.size X2 X->Row X b1 zW 27/\Below w.heap.size w (X.setCells b1 0 cr)):=fun X hX=>
  ⟨HZ2.out.below hX (by have:=HS.out;omega),zaC (HB2.out.trans (hX.mono (by have:=HS.out;omega))) (by have:=HS.out;omega) cr⟩
 have g45:=H45.out X2 HL2.out
 rw[<-hb1]
 clear hb1 S1 S2 R1 R2 B1 B2
 have HCT:Hid (∀ X,Calls Tryz.prog 38 #[.int .i64 (l:Int)] X fun e w'=>e=.returned (.agg cr.toArray)/\Below X.heap.size X w'):=fun X=>zjS l (by have:=HNI.out;omega) Hr X
 go_wp2_with (first
  |(go_at_call 38;refine (HCT.out X2).mono ?_;rintro e X5 ⟨rfl,q⟩;have B5:Hid (Below X2.heap.size X2 X5):=q;clear q)
  |(refine zaD rfl 27 (.tmp 8) (.tmp 54) rfl b1 cr zW _ rfl rfl (HFIN.out X5 B5.out).1 (by rw[Hr.len];rfl) Hr.info Hr.one ?_;intro X6 (E6:Hid (X6=X5.setCells b1 0 cr)) (R6:Hid (Row X6 b1 cr 27));simp only[Act.put]))
 exact bodyPost_ret (zaW Tryz.results22 _ _ b1 27 cr rfl R6.out Tryz.underlying27 (by rw[Hr.len];exact zaL)) rfl ⟨rfl,by rw[E6.out];exact (HFIN.out _ B5.out).2⟩
theorem told_18 (cl:Cl) (L:List Value) (hcl:cl.In L) (htok:cl.tok<64) (htm:cl.tm<=4611686018427387904) (A:Option Addr) (na ca:Nat) (h45:L[45]?=some (.slice A na ca)) (ags:List Nat) (hna:na=ags.length) (hna8:na<=8) (ni l:Nat) (hni:ni<256) (hl:l<=10000) (w:World) (hag:Sin w 4 A na ca (fw ags)) :
 Calls Tryz.prog 22 #[.int .i64 18,.int .i64 (ni:Int),.agg L.toArray,.int .i64 (l:Int)] w fun e w'=>e=.returned (.agg (wq (nb cl.cr)).toArray)/\Below w.heap.size w w':=by
 obtain⟨cr,Hr⟩:∃ cr,Wc cr (nb cl.cr):=⟨_,rfl⟩
 rw[<-show cr=wq (nb cl.cr) from Hr]
 have h45':∀ X,Row X w.heap.size L 30->X.cell? ⟨w.heap.size,45,none⟩=some (.slice A na ca):=fun X r=>r.cell 45 _ h45
 have H45:Hid _:=h45'
 have HCL:Hid (cl.In L):=hcl
 have HAG:Hid (Sin w 4 A na ca (fw ags)):=hag
 have HT:Hid (cl.tok<64/\cl.tm<=4611686018427387904/\na<=8/\na=ags.length):=⟨htok,htm,hna8,hna⟩
 have hnib:(ni:Int)<256:=by omega
 have hlb:(l:Int)<=10000:=by omega
 have hna8b:(na:Int)<=8:=by omega
 have HNI:Hid (ni<256/\l<=10000):=⟨hni,hl⟩
 clear h45' hcl hag htok htm h45 hna hna8 hni hl
 go_enter Tryz.func22,Tryz.ntmps22
 go_upto_region 1 with (first
  |(refine zaF 30 rfl (.tmp 2) rfl L rfl ?_;intro X1 (R1:Hid (Row X1 w.heap.size L 30)) (B1:Hid (Below w.heap.size w X1)) (S1:Hid (X1.heap.size=w.heap.size+1));simp only[Act.put,jA,jB,jC])
  |(refine zaK rfl rfl ?_;intro X2 (R2:Hid (Row X2 X1.heap.size zW 27)) (B2:Hid (Below X1.heap.size X1 X2)) (S2:Hid (X2.heap.size=X1.heap.size+1));simp only[Act.put,jA,jB,jC]))
 obtain⟨b1,hb1⟩:∃ b1,b1=X1.heap.size:=⟨_,rfl⟩
 have HL2:Hid (Row X2 w.heap.size L 30):=R1.out.below B2.out (by have:=S1.out;omega)
 have HZ2:Hid (Row X2 b1 zW 27):=by
  show Row X2 b1 zW _
  rw[hb1]
  exact R2.out
 have HB2:Hid (Below w.heap.size w X2):=B1.out.trans (B2.out.mono (by have:=S1.out;omega))
 have HS:Hid (b1=w.heap.size+1/\X2.heap.size=w.heap.size+2):=by
  have:=S1.out
  have:=S2.out
  exact⟨by omega,by omega⟩
 have HFIN:Hid (∀ X,Below X2.heap.size X2 X->Row X b1 zW 27/\Below w.heap.size w (X.setCells b1 0 cr)):=fun X hX=>
  ⟨HZ2.out.below hX (by have:=HS.out;omega),zaC (HB2.out.trans (hX.mono (by have:=HS.out;omega))) (by have:=HS.out;omega) cr⟩
 have g45:=H45.out X2 HL2.out
 rw[<-hb1]
 clear hb1 S1 S2 R1 R2 B1 B2
 obtain⟨D,hD⟩:∃ D,D=vB cl.cr:=⟨_,rfl⟩
 have hg:X2.rangeAt w.heap.size 20 D:=fun j v hj=>HL2.out.cell (20+j) v (HCL.out.cr j v (by rw[<-hD];exact hj))
 have HG:Hid (X2.rangeAt w.heap.size 20 D):=hg
 have HDI:Hid ((Tryz.prog.info? 24).map (·.size)=some D.length):=by show _=_;rw[hD,zcV,HCL.out.l2];exact zoO
 have HWO:Hid (∀ X,Calls Tryz.prog 39 #[.agg D.toArray] X fun e w'=>e=.returned (.agg cr.toArray)/\Below X.heap.size X w'):=fun X=>by rw[hD];exact zpQ cl.cr HCL.out.l2 Hr X
 clear hD hg
 go_wp2_with (first
  |(refine wpList_load_mid rfl 24 (.tmp 31) rfl w.heap.size 20 rfl D _ HG.out Tryz.underlying24 rfl HDI.out ?_;simp only[Act.put,jA,jB,jC])
  |(go_at_call 39;refine (HWO.out X2).mono ?_;rintro e X5 ⟨rfl,q⟩;have B5:Hid (Below X2.heap.size X2 X5):=q;clear q)
  |(refine zaD rfl 27 (.tmp 8) (.tmp 33) rfl b1 cr zW _ rfl rfl (HFIN.out X5 B5.out).1 (by rw[Hr.len];rfl) Hr.info Hr.one ?_;intro X6 (E6:Hid (X6=X5.setCells b1 0 cr)) (R6:Hid (Row X6 b1 cr 27));simp only[Act.put]))
 exact bodyPost_ret (zaW Tryz.results22 _ _ b1 27 cr rfl R6.out Tryz.underlying27 (by rw[Hr.len];exact zaL)) rfl ⟨rfl,by rw[E6.out];exact (HFIN.out _ B5.out).2⟩
theorem told_19 (cl:Cl) (L:List Value) (hcl:cl.In L) (htok:cl.tok<64) (htm:cl.tm<=4611686018427387904) (A:Option Addr) (na ca:Nat) (h45:L[45]?=some (.slice A na ca)) (ags:List Nat) (hna:na=ags.length) (hna8:na<=8) (ni l:Nat) (hni:ni<256) (hl:l<=10000) (w:World) (hag:Sin w 4 A na ca (fw ags)) :
 Calls Tryz.prog 22 #[.int .i64 19,.int .i64 (ni:Int),.agg L.toArray,.int .i64 (l:Int)] w fun e w'=>e=.returned (.agg (wq (nb cl.sf)).toArray)/\Below w.heap.size w w':=by
 obtain⟨cr,Hr⟩:∃ cr,Wc cr (nb cl.sf):=⟨_,rfl⟩
 rw[<-show cr=wq (nb cl.sf) from Hr]
 have h45':∀ X,Row X w.heap.size L 30->X.cell? ⟨w.heap.size,45,none⟩=some (.slice A na ca):=fun X r=>r.cell 45 _ h45
 have H45:Hid _:=h45'
 have HCL:Hid (cl.In L):=hcl
 have HAG:Hid (Sin w 4 A na ca (fw ags)):=hag
 have HT:Hid (cl.tok<64/\cl.tm<=4611686018427387904/\na<=8/\na=ags.length):=⟨htok,htm,hna8,hna⟩
 have hnib:(ni:Int)<256:=by omega
 have hlb:(l:Int)<=10000:=by omega
 have hna8b:(na:Int)<=8:=by omega
 have HNI:Hid (ni<256/\l<=10000):=⟨hni,hl⟩
 clear h45' hcl hag htok htm h45 hna hna8 hni hl
 go_enter Tryz.func22,Tryz.ntmps22
 go_upto_region 1 with (first
  |(refine zaF 30 rfl (.tmp 2) rfl L rfl ?_;intro X1 (R1:Hid (Row X1 w.heap.size L 30)) (B1:Hid (Below w.heap.size w X1)) (S1:Hid (X1.heap.size=w.heap.size+1));simp only[Act.put,jA,jB,jC])
  |(refine zaK rfl rfl ?_;intro X2 (R2:Hid (Row X2 X1.heap.size zW 27)) (B2:Hid (Below X1.heap.size X1 X2)) (S2:Hid (X2.heap.size=X1.heap.size+1));simp only[Act.put,jA,jB,jC]))
 obtain⟨b1,hb1⟩:∃ b1,b1=X1.heap.size:=⟨_,rfl⟩
 have HL2:Hid (Row X2 w.heap.size L 30):=R1.out.below B2.out (by have:=S1.out;omega)
 have HZ2:Hid (Row X2 b1 zW 27):=by
  show Row X2 b1 zW _
  rw[hb1]
  exact R2.out
 have HB2:Hid (Below w.heap.size w X2):=B1.out.trans (B2.out.mono (by have:=S1.out;omega))
 have HS:Hid (b1=w.heap.size+1/\X2.heap.size=w.heap.size+2):=by
  have:=S1.out
  have:=S2.out
  exact⟨by omega,by omega⟩
 have HFIN:Hid (∀ X,Below X2.heap.size X2 X->Row X b1 zW 27/\Below w.heap.size w (X.setCells b1 0 cr)):=fun X hX=>
  ⟨HZ2.out.below hX (by have:=HS.out;omega),zaC (HB2.out.trans (hX.mono (by have:=HS.out;omega))) (by have:=HS.out;omega) cr⟩
 have g45:=H45.out X2 HL2.out
 rw[<-hb1]
 clear hb1 S1 S2 R1 R2 B1 B2
 obtain⟨D,hD⟩:∃ D,D=vB cl.sf:=⟨_,rfl⟩
 have hg:X2.rangeAt w.heap.size 0 D:=fun j v hj=>HL2.out.cell (0+j) v (HCL.out.sf j v (by rw[<-hD];exact hj))
 have HG:Hid (X2.rangeAt w.heap.size 0 D):=hg
 have HDI:Hid ((Tryz.prog.info? 24).map (·.size)=some D.length):=by show _=_;rw[hD,zcV,HCL.out.l1];exact zoO
 have HWO:Hid (∀ X,Calls Tryz.prog 39 #[.agg D.toArray] X fun e w'=>e=.returned (.agg cr.toArray)/\Below X.heap.size X w'):=fun X=>by rw[hD];exact zpQ cl.sf HCL.out.l1 Hr X
 clear hD hg
 go_wp2_with (first
  |(refine wpList_load_mid rfl 24 (.tmp 36) rfl w.heap.size 0 rfl D _ HG.out Tryz.underlying24 rfl HDI.out ?_;simp only[Act.put,jA,jB,jC])
  |(go_at_call 39;refine (HWO.out X2).mono ?_;rintro e X5 ⟨rfl,q⟩;have B5:Hid (Below X2.heap.size X2 X5):=q;clear q)
  |(refine zaD rfl 27 (.tmp 8) (.tmp 38) rfl b1 cr zW _ rfl rfl (HFIN.out X5 B5.out).1 (by rw[Hr.len];rfl) Hr.info Hr.one ?_;intro X6 (E6:Hid (X6=X5.setCells b1 0 cr)) (R6:Hid (Row X6 b1 cr 27));simp only[Act.put]))
 exact bodyPost_ret (zaW Tryz.results22 _ _ b1 27 cr rfl R6.out Tryz.underlying27 (by rw[Hr.len];exact zaL)) rfl ⟨rfl,by rw[E6.out];exact (HFIN.out _ B5.out).2⟩
theorem told_21 (cl:Cl) (L:List Value) (hcl:cl.In L) (htok:cl.tok<64) (htm:cl.tm<=4611686018427387904) (A:Option Addr) (na ca:Nat) (h45:L[45]?=some (.slice A na ca)) (ags:List Nat) (hna:na=ags.length) (hna8:na<=8) (ni l:Nat) (hni:ni<256) (hl:l<=10000) (w:World) (hag:Sin w 4 A na ca (fw ags)) :
 Calls Tryz.prog 22 #[.int .i64 21,.int .i64 (ni:Int),.agg L.toArray,.int .i64 (l:Int)] w fun e w'=>e=.returned (.agg (wq (cl.amt)).toArray)/\Below w.heap.size w w':=by
 obtain⟨cr,Hr⟩:∃ cr,Wc cr (cl.amt):=⟨_,rfl⟩
 rw[<-show cr=wq (cl.amt) from Hr]
 have h45':∀ X,Row X w.heap.size L 30->X.cell? ⟨w.heap.size,45,none⟩=some (.slice A na ca):=fun X r=>r.cell 45 _ h45
 have H45:Hid _:=h45'
 have HCL:Hid (cl.In L):=hcl
 have HAG:Hid (Sin w 4 A na ca (fw ags)):=hag
 have HT:Hid (cl.tok<64/\cl.tm<=4611686018427387904/\na<=8/\na=ags.length):=⟨htok,htm,hna8,hna⟩
 have hnib:(ni:Int)<256:=by omega
 have hlb:(l:Int)<=10000:=by omega
 have hna8b:(na:Int)<=8:=by omega
 have HNI:Hid (ni<256/\l<=10000):=⟨hni,hl⟩
 clear h45' hcl hag htok htm h45 hna hna8 hni hl
 go_enter Tryz.func22,Tryz.ntmps22
 go_upto_region 1 with (first
  |(refine zaF 30 rfl (.tmp 2) rfl L rfl ?_;intro X1 (R1:Hid (Row X1 w.heap.size L 30)) (B1:Hid (Below w.heap.size w X1)) (S1:Hid (X1.heap.size=w.heap.size+1));simp only[Act.put,jA,jB,jC])
  |(refine zaK rfl rfl ?_;intro X2 (R2:Hid (Row X2 X1.heap.size zW 27)) (B2:Hid (Below X1.heap.size X1 X2)) (S2:Hid (X2.heap.size=X1.heap.size+1));simp only[Act.put,jA,jB,jC]))
 obtain⟨b1,hb1⟩:∃ b1,b1=X1.heap.size:=⟨_,rfl⟩
 have HL2:Hid (Row X2 w.heap.size L 30):=R1.out.below B2.out (by have:=S1.out;omega)
 have HZ2:Hid (Row X2 b1 zW 27):=by
  show Row X2 b1 zW _
  rw[hb1]
  exact R2.out
 have HB2:Hid (Below w.heap.size w X2):=B1.out.trans (B2.out.mono (by have:=S1.out;omega))
 have HS:Hid (b1=w.heap.size+1/\X2.heap.size=w.heap.size+2):=by
  have:=S1.out
  have:=S2.out
  exact⟨by omega,by omega⟩
 have HFIN:Hid (∀ X,Below X2.heap.size X2 X->Row X b1 zW 27/\Below w.heap.size w (X.setCells b1 0 cr)):=fun X hX=>
  ⟨HZ2.out.below hX (by have:=HS.out;omega),zaC (HB2.out.trans (hX.mono (by have:=HS.out;omega))) (by have:=HS.out;omega) cr⟩
 have g45:=H45.out X2 HL2.out
 rw[<-hb1]
 clear hb1 S1 S2 R1 R2 B1 B2
 have hg:X2.rangeAt w.heap.size 41 cr:=fun j v hj=>HL2.out.cell (41+j) v (HCL.out.amt j v (by rw[<-show cr=wq cl.amt from Hr];exact hj))
 have HG:Hid (X2.rangeAt w.heap.size 41 cr):=hg
 clear hg
 go_wp2_with (first
  |(refine wpList_load_mid rfl 27 (.tmp 46) rfl w.heap.size 41 rfl cr _ HG.out Tryz.underlying27 rfl Hr.info ?_;simp only[Act.put,jA,jB,jC])
  |(refine zaD rfl 27 (.tmp 8) (.tmp 47) rfl b1 cr zW _ rfl rfl (HFIN.out X2 (Below.refl _ _)).1 (by rw[Hr.len];rfl) Hr.info Hr.one ?_;intro X6 (E6:Hid (X6=X2.setCells b1 0 cr)) (R6:Hid (Row X6 b1 cr 27));simp only[Act.put]))
 exact bodyPost_ret (zaW Tryz.results22 _ _ b1 27 cr rfl R6.out Tryz.underlying27 (by rw[Hr.len];exact zaL)) rfl ⟨rfl,by rw[E6.out];exact (HFIN.out _ (Below.refl _ _)).2⟩
theorem told_g (c:Nat) (hc:16<=c) (hc2:c<24) (cl:Cl) (L:List Value) (hcl:cl.In L) (htok:cl.tok<64) (htm:cl.tm<=4611686018427387904) (A:Option Addr) (na ca:Nat) (h45:L[45]?=some (.slice A na ca)) (ags:List Nat) (hna:na=ags.length) (hna8:na<=8) (ni l:Nat) (hni:ni<256) (hl:l<=10000) (w:World) (hag:Sin w 4 A na ca (fw ags)) :
 Calls Tryz.prog 22 #[.int .i64 (c:Int),.int .i64 (ni:Int),.agg L.toArray,.int .i64 (l:Int)] w fun e w'=>e=.returned (.agg (wq (tv cl ags c ni l)).toArray)/\Below w.heap.size w w':=by
 rcases (show c=16\/c=17\/c=18\/c=19\/c=20\/c=21\/c=22\/c=23 by omega) with rfl|rfl|rfl|rfl|rfl|rfl|rfl|rfl
 ·by_cases h:ni<na
  ·exact yaC cl L hcl htok htm A na ca h45 ags hna hna8 ni l hni hl h w hag
  ·have e:tv cl ags 16 ni l=0:=by
    show ags.getD ni 0=0
    rw[List.getD_eq_getElem?_getD,List.getElem?_eq_none (by omega)]
    rfl
   rw[e]
   exact yaD cl L hcl htok htm A na ca h45 ags hna hna8 ni l hni hl h w hag
 ·exact told_17 cl L hcl htok htm A na ca h45 ags hna hna8 ni l hni hl w hag
 ·exact told_18 cl L hcl htok htm A na ca h45 ags hna hna8 ni l hni hl w hag
 ·exact told_19 cl L hcl htok htm A na ca h45 ags hna hna8 ni l hni hl w hag
 ·exact told_20 cl L hcl htok htm A na ca h45 ags hna hna8 ni l hni hl w hag
 ·exact told_21 cl L hcl htok htm A na ca h45 ags hna hna8 ni l hni hl w hag
 ·exact told_22 cl L hcl htok htm A na ca h45 ags hna hna8 ni l hni hl w hag
 ·exact told_23 cl L hcl htok htm A na ca h45 ags hna hna8 ni l hni hl w hag
def zgT (ls:List Ins) (n k:Nat):Nat:=match ls[k]? with|some x=>x.p|none=>n
theorem zlN {ls:List Ins} {n k:Nat} {x:Ins} (h:ls[k]?=some x):zgT ls n k=x.p:=by unfold zgT;rw[h]
theorem ztT {ls:List Ins} {n k:Nat} (h:ls[k]?=none):zgT ls n k=n:=by unfold zgT;rw[h]
theorem zlM (x:Ins) (ls:List Ins) (n k:Nat):zgT (x :: ls) n (k+1)=zgT ls n k:=by unfold zgT;rw[List.getElem?_cons_succ]
theorem pg_at {d:List (BitVec 8)}:∀ (f p:Nat) (ls:List Ins),pg d f p=some ls->p<=d.length->zgT ls d.length 0=p/\∀ (k:Nat) (x:Ins),ls[k]?=some x->x.p<d.length/\∃ s,ri (d.drop x.p)=some (x.c,x.a,x.n,s)/\zgT ls d.length (k+1)=x.p+s:=by
 intro f
 induction f with
 |zero=>intro p ls h;cases h
 |succ f ih=>
  intro p ls h hp
  by_cases hlt:p<d.length
  ·cases hri:ri (d.drop p) with
   |none=>rw[zfT hlt hri] at h;cases h
   |some y=>
    obtain⟨c,a,n,s⟩:=y
    rw[zfU hlt hri] at h
    cases hq:pg d f (p+s) with
    |none=>rw[hq] at h;cases h
    |some l2=>
     rw[hq] at h
     simp only[Option.map_some,Option.some.injEq] at h
     subst h
     have hs:=(zfW hri).2.2.2
     rw[List.length_drop] at hs
     obtain⟨i1,i2⟩:=ih (p+s) l2 hq (by omega)
     refine⟨rfl,fun k x hx=>?_⟩
     cases k with
     |zero=>
      rw[List.getElem?_cons_zero] at hx
      obtain rfl:=Option.some.inj hx
      exact⟨hlt,s,hri,by rw[zlM];exact i1⟩
     |succ k=>
      rw[List.getElem?_cons_succ] at hx
      obtain⟨j1,s2,j2,j3⟩:=i2 k x hx
      exact⟨j1,s2,j2,by rw[zlM];exact j3⟩
  ·rw[zjL (by omega)] at h
   obtain rfl:=Option.some.inj h
   refine⟨?_,fun k x hx=>by simp at hx⟩
   show d.length=p
   omega
theorem stf_at {ls:List Ins} {i:Nat} (n:Nat) (h:stf ls i≠0):zgT ls n (stf ls i-1)=i:=by
 unfold stf at h ⊢
 cases hf:ls.findIdx? (fun x=>x.p==i) with
 |none=>rw[hf] at h;exact absurd rfl h
 |some k=>
  simp only[Nat.add_sub_cancel]
  obtain⟨hk,h1,_⟩:=List.findIdx?_eq_some_iff_getElem.1 hf
  rw[zlN (List.getElem?_eq_getElem hk)]
  simpa using h1
def zdP:Code->Option Code
 |.loop c=>some c
 |.seq a b=>match zdP a with
  |some c=>some c
  |none=>zdP b
 |.block _ c=>zdP c
 |.scope c=>zdP c
 |.cond _ a b=>match zdP a with
  |some c=>some c
  |none=>zdP b
 |_=>none
noncomputable def zhF:Code:=((Tryz.f5.body.bind zdP).getD .skip)
structure Env (w0:World) (pd:List (BitVec 8)) (ls:List Ins) (ags:List Nat) (rs:List (Nat × Int)) (cl:Cl) (G:Nat) (L:List Value) (Aa Ar:Option Addr) (na ca nr cr0 gk ok m ck b4 b6:Nat):Prop where
 pdl:pd.length=m
 chk:chk pd=some ls
 code:w0.rangeAt gk ok (vB pd)
 ag:Sin w0 4 Aa na ca (fw ags)
 nal:na=ags.length
 na8:na<=8
 rp:Sin w0 5 Ar nr cr0 (frs rs)
 nrl:nr=rs.length
 inn:cl.In L
 l45:L[45]?=some (.slice Aa na ca)
 l47:L[47]?=some (.int .i64 (G:Int))
 llen:L.length=48
 tok:cl.tok<64
 tm:cl.tm<=4611686018427387904
 vals:zpW (2 ^ 256) cl ags ls rs
 b4l:w0.heap.size<=b4
 b6l:w0.heap.size<=b6
 gas:G<=10000
structure Dr (w0:World) (b4 b6:Nat) (L:List Value) (w:World) (sv:Value) (ss:List Nat) (qv:Value) (qs:List (List Value)):Prop where
 be:Below w0.heap.size w0 w
 r4:Row w b4 L 30
 r6:Row w b6 zR 35
 st:Lw w 27 4 sv ss.length (fw ss)
 so:∀ g,sv.ownBlock=some g->w0.heap.size<=g
 aq:Lw w tAk 30 qv qs.length qs.flatten
 ao:∀ g,qv.ownBlock=some g->w0.heap.size<=g
section
variable {w0:World} {b4 b6:Nat} {L:List Value} {w w':World} {sv:Value} {ss:List Nat} {qv:Value} {qs:List (List Value)}
theorem Dr.keep (H:Dr w0 b4 b6 L w sv ss qv qs) (k:Below w.heap.size w w'):Dr w0 b4 b6 L w' sv ss qv qs:=
 ⟨H.be.trans (k.mono H.be.size),H.r4.below k H.r4.lt,H.r6.below k H.r6.lt,Lw.be H.st k,H.so,Lw.be H.aq k,H.ao⟩
theorem Dr.stack (H:Dr w0 b4 b6 L w sv ss qv qs) {sv':Value} {ss':List Nat} (h:Lw w 27 4 sv' ss'.length (fw ss')) (ho:∀ g,sv'.ownBlock=some g->w0.heap.size<=g):Dr w0 b4 b6 L w sv' ss' qv qs:=
 ⟨H.be,H.r4,H.r6,h,ho,H.aq,H.ao⟩
end
theorem Env.at {w0:World} {pd:List (BitVec 8)} {ls:List Ins} {ags:List Nat} {rs:List (Nat × Int)} {cl:Cl} {G:Nat} {L:List Value} {Aa Ar:Option Addr} {na ca nr cr0 gk ok m ck b4 b6:Nat} (E:Env w0 pd ls ags rs cl G L Aa Ar na ca nr cr0 gk ok m ck b4 b6) (i:Nat) (hi:i<m) (X:World) (hX:Below w0.heap.size w0 X):X.cell? ⟨gk,ok+i,none⟩=some (.int .u8 (((pd.getD i 0#8).toNat:Nat):Int)):=
 zaS E.code hX i _ (zvF pd i (by rw[E.pdl];exact hi))
def WI (w0:World) (b4 b6:Nat) (L:List Value) (kv rv:Value) (cl:Cl) (ags:List Nat) (ls:List Ins) (rs:List (Nat × Int)) (R:Except Int (Nat × Nat)) (Q:List (List Value)) (G m:Nat) (a:Act) (w:World):Prop:=
 ∃ (lst:List Value) (l nx:Nat) (st:List Nat) (sv qv:Value) (qs:List (List Value)),a=⟨lst.toArray,[]⟩/\lst.length=362/\lst.getD 0 undef=kv/\lst.getD 2 undef=rv/\lst.getD 4 undef=.pointer (some ⟨b4,0,none⟩)/\lst.getD 6 undef=.pointer (some ⟨b6,0,none⟩)/\lst.getD 9 undef=sv/\lst.getD 10 undef=qv/\lst.getD 11 undef=.int .i64 (l:Int)/\lst.getD 12 undef=.int .i64 ((zgT ls m nx:Nat):Int)/\Dr w0 b4 b6 L w sv st.reverse qv qs/\Rd cl ags ls rs R Q G st l nx qs/\nx<=ls.length
def RP (w0:World) (b6:Nat) (RV:List Value) (RE:Int) (Q:List (List Value)) (a:Act) (w:World):Prop:=
 ∃ (lst:List Value) (A7:Option Addr) (c7:Nat),a=⟨lst.toArray,[]⟩/\lst.getD 6 undef=.pointer (some ⟨b6,0,none⟩)/\lst.getD 7 undef=.int .i64 RE/\lst.getD 8 undef=.slice A7 Q.length c7/\Row w b6 RV 35/\Lw w tAk 30 (.slice A7 Q.length c7) Q.length Q.flatten/\Below w0.heap.size w0 w
def Wmu (a:Act):Nat:=(intOf (a.tmps.getD 11 undef)).toNat
theorem zfS (l:List Value) (h:l.length=362):∃ f:Nat->Value,f=(fun k=>l.getD k undef)/\l=[f 0,f 1,f 2,f 3,f 4,f 5,f 6,f 7,f 8,f 9,f 10,f 11,f 12,f 13,f 14,f 15,f 16,f 17,f 18,f 19,f 20,f 21,f 22,f 23,f 24,f 25,f 26,f 27,f 28,f 29,f 30,f 31,f 32,f 33,f 34,f 35,f 36,f 37,f 38,f 39,f 40,f 41,f 42,f 43,f 44,f 45,f 46,f 47,f 48,f 49,f 50,f 51,f 52,f 53,f 54,f 55,f 56,f 57,f 58,f 59,f 60,f 61,f 62,f 63,f 64,f 65,f 66,f 67,f 68,f 69,f 70,f 71,f 72,f 73,f 74,f 75,f 76,f 77,f 78,f 79,f 80,f 81,f 82,f 83,f 84,f 85,f 86,f 87,f 88,f 89,f 90,f 91,f 92,f 93,f 94,f 95,f 96,f 97,f 98,f 99,f 100,f 101,f 102,f 103,f 104,f 105,f 106,f 107,f 108,f 109,f 110,f 111,f 112,f 113,f 114,f 115,f 116,f 117,f 118,f 119,f 120,f 121,f 122,f 123,f 124,f 125,f 126,f 127,f 128,f 129,f 130,f 131,f 132,f 133,f 134,f 135,f 136,f 137,f 138,f 139,f 140,f 141,f 142,f 143,f 144,f 145,f 146,f 147,f 148,f 149,f 150,f 151,f 152,f 153,f 154,f 155,f 156,f 157,f 158,f 159,f 160,f 161,f 162,f 163,f 164,f 165,f 166,f 167,f 168,f 169,f 170,f 171,f 172,f 173,f 174,f 175,f 176,f 177,f 178,f 179,f 180,f 181,f 182,f 183,f 184,f 185,f 186,f 187,f 188,f 189,f 190,f 191,f 192,f 193,f 194,f 195,f 196,f 197,f 198,f 199,f 200,f 201,f 202,f 203,f 204,f 205,f 206,f 207,f 208,f 209,f 210,f 211,f 212,f 213,f 214,f 215,f 216,f 217,f 218,f 219,f 220,f 221,f 222,f 223,f 224,f 225,f 226,f 227,f 228,f 229,f 230,f 231,f 232,f 233,f 234,f 235,f 236,f 237,f 238,f 239,f 240,f 241,f 242,f 243,f 244,f 245,f 246,f 247,f 248,f 249,f 250,f 251,f 252,f 253,f 254,f 255,f 256,f 257,f 258,f 259,f 260,f 261,f 262,f 263,f 264,f 265,f 266,f 267,f 268,f 269,f 270,f 271,f 272,f 273,f 274,f 275,f 276,f 277,f 278,f 279,f 280,f 281,f 282,f 283,f 284,f 285,f 286,f 287,f 288,f 289,f 290,f 291,f 292,f 293,f 294,f 295,f 296,f 297,f 298,f 299,f 300,f 301,f 302,f 303,f 304,f 305,f 306,f 307,f 308,f 309,f 310,f 311,f 312,f 313,f 314,f 315,f 316,f 317,f 318,f 319,f 320,f 321,f 322,f 323,f 324,f 325,f 326,f 327,f 328,f 329,f 330,f 331,f 332,f 333,f 334,f 335,f 336,f 337,f 338,f 339,f 340,f 341,f 342,f 343,f 344,f 345,f 346,f 347,f 348,f 349,f 350,f 351,f 352,f 353,f 354,f 355,f 356,f 357,f 358,f 359,f 360,f 361]:=by
 refine⟨_,rfl,?_⟩
 have e:l=(List.range 362).map (fun k=>l.getD k undef):=by
  apply List.ext_getElem
  ·simp [h]
  ·intro i h1 h2
   simp [h1]
 conv=>lhs;rw[e]
 rfl
section
variable {ops:Array Oper} {rest:List Oper} {op:Oper} {a:Act} {w:World} {Q:Exit->Act->World->Prop}
theorem zsU (a b:List Nat):fw (a++b)=fw a++fw b:=by unfold fw;exact List.flatMap_append
theorem znU (hgd:op.guard=none) (x y:Operand) (ho:op.op=.slice 28 x (some y) none none) (sv:Value) (n k:Nat) (base tops:List Nat) (hb:k=base.length) (hn:n=base.length+tops.length) (hown:Lw w 27 4 sv n (fw (base++tops))) (hx:a.eval x=sv) (hy:a.eval y=.int .i64 (k:Int))
 (h:∀ A c,Sin w 4 A tops.length c (fw tops)->wpList Tryz.prog ops Q rest (a.put op.dst (.slice A tops.length c)) w):wpList Tryz.prog ops Q (op :: rest) a w:=by
 obtain⟨A,cap,hv,hle,hnil⟩:=Lw.form hown
 refine wpList_plain hgd fun K hK=>?_
 have hs:(Tryz.prog.info? 27).map (·.size)=some 4:=zaL
 cases hA:A with
 |none=>
  have hc:=hnil hA
  subst hA
  have hn0:n=0:=by omega
  have ht:tops=[]:=by
   cases tops with
   |nil=>rfl
   |cons _ _=>simp at hn;omega
  have hk0:k=0:=by omega
  have hr:(Instr.sliceAt 28 (.slice none n cap) (some (.int .i64 (k:Int))) none none).run Tryz.prog w=.ok (.slice none 0 0) w:=by
   subst hn0 hk0 hc
   simp [Instr.sliceAt,Instr.slice,run_underlying Tryz.underlying28,Instr.sliceBounds,Instr.sliceBound,asIntOf]
  unfold Oper.wp execOp
  rw[hv] at hx
  simp only[ho,hx,hy,Option.map_some,Option.map_none,Sem.run_bind,hr,Result.andThen_ok,Sem.run_pure,Oper.upon_value]
  refine hK _ _ ?_
  have:=h none 0 (.inl ⟨by rw[ht];rfl,by rw[ht];rfl,fun _=>rfl⟩)
  rw[ht] at this
  exact this
 |some ad=>
  subst hA
  have hz:∃ g,ad=⟨g,0,none⟩:=by
   rcases hown.2 with ⟨h2,_⟩|⟨g,cap2,cur,hv2,_⟩
   ·rw[hv] at h2;cases h2
   ·rw[hv] at hv2
    simp only[Value.slice.injEq,Option.some.injEq] at hv2
    exact⟨g,hv2.1⟩
  obtain⟨g,rfl⟩:=hz
  have hkn:k<=n:=by omega
  have hr:(Instr.sliceAt 28 (.slice (some ⟨g,0,none⟩) n cap) (some (.int .i64 (k:Int))) none none).run Tryz.prog w=.ok (.slice (some (if cap=k then ⟨g,0,none⟩ else ⟨g,k*4,none⟩)) (n-k) (cap-k)) w:=by
   cases hq:Tryz.prog.info? 27 with
   |none=>simp [hq] at hs
   |some i=>
    have h1:i.size=4:=by simpa [hq] using hs
    by_cases h2:cap=k <;> simp [Instr.sliceAt,Instr.slice,run_underlying Tryz.underlying28,Instr.sliceBounds,Instr.sliceBound,asIntOf,sizeOf,typeInfo,hq,h1,h2,Addr.add_mid,hkn] <;> omega
  unfold Oper.wp execOp
  rw[hv] at hx
  simp only[ho,hx,hy,Option.map_some,Option.map_none,Sem.run_bind,hr,Result.andThen_ok,Sem.run_pure,Oper.upon_value]
  refine hK _ _ ?_
  have htl:n-k=tops.length:=by omega
  rw[htl]
  refine h _ _ ?_
  by_cases h0:tops=[]
  ·exact .inl ⟨by rw[h0];rfl,by rw[h0];rfl,fun q=>by cases q⟩
  ·have hpos:0<tops.length:=List.length_pos_iff.2 h0
   rw[if_neg (by omega)]
   refine .inr ⟨g,k*4,rfl,zfO _,fun j v hj=>?_⟩
   have hrg:=Lw.range (by rw[hv] at hown;exact hown)
   have:=hrg (k*4+j) v (by rw[zsU,List.getElem?_append_right (by rw[zfO];omega),zfO,hb,show base.length*4+j-base.length*4=j by omega];exact hj)
   rwa [Nat.zero_add] at this
theorem ziR (hgd:op.guard=none) (x y:Operand) (ho:op.op=.slice 28 x none (some y) none) (sv:Value) (n k:Nat) (base tops:List Nat) (hb:k=base.length) (hn:n=base.length+tops.length) (hown:Lw w 27 4 sv n (fw (base++tops))) (hx:a.eval x=sv) (hy:a.eval y=.int .i64 (k:Int))
 (h:∀ A c,Sin w 4 A k c (fw base)->wpList Tryz.prog ops Q rest (a.put op.dst (.slice A k c)) w):wpList Tryz.prog ops Q (op :: rest) a w:=by
 obtain⟨A,cap,hv,hle,hnil⟩:=Lw.form hown
 refine wpList_plain hgd fun K hK=>?_
 have hs:(Tryz.prog.info? 27).map (·.size)=some 4:=zaL
 cases hA:A with
 |none=>
  have hc:=hnil hA
  subst hA
  have hk0:k=0:=by omega
  have hn0:n=0:=by omega
  have hr:(Instr.sliceAt 28 (.slice none n cap) none (some (.int .i64 (k:Int))) none).run Tryz.prog w=.ok (.slice none 0 0) w:=by
   subst hn0 hk0 hc
   simp [Instr.sliceAt,Instr.slice,run_underlying Tryz.underlying28,Instr.sliceBounds,Instr.sliceBound,asIntOf]
  unfold Oper.wp execOp
  rw[hv] at hx
  simp only[ho,hx,hy,Option.map_some,Option.map_none,Sem.run_bind,hr,Result.andThen_ok,Sem.run_pure,Oper.upon_value]
  refine hK _ _ ?_
  have hb0:base=[]:=by
   cases base with
   |nil=>rfl
   |cons _ _=>simp at hb;omega
  have:=h none 0 (.inl ⟨hk0,by rw[hb0];rfl,fun _=>rfl⟩)
  rw[hk0] at this
  exact this
 |some ad=>
  subst hA
  have hz:∃ g,ad=⟨g,0,none⟩:=by
   rcases hown.2 with ⟨h2,_⟩|⟨g,cap2,cur,hv2,_⟩
   ·rw[hv] at h2;cases h2
   ·rw[hv] at hv2
    simp only[Value.slice.injEq,Option.some.injEq] at hv2
    exact⟨g,hv2.1⟩
  obtain⟨g,rfl⟩:=hz
  have hkc:k<=cap:=by omega
  have hr:(Instr.sliceAt 28 (.slice (some ⟨g,0,none⟩) n cap) none (some (.int .i64 (k:Int))) none).run Tryz.prog w=.ok (.slice (some ⟨g,0,none⟩) k cap) w:=by
   cases hq:Tryz.prog.info? 27 with
   |none=>simp [hq] at hs
   |some i=>
    have h1:i.size=4:=by simpa [hq] using hs
    simp [Instr.sliceAt,Instr.slice,run_underlying Tryz.underlying28,Instr.sliceBounds,Instr.sliceBound,asIntOf,sizeOf,typeInfo,hq,Addr.add_mid,hkc]
  unfold Oper.wp execOp
  rw[hv] at hx
  simp only[ho,hx,hy,Option.map_some,Option.map_none,Sem.run_bind,hr,Result.andThen_ok,Sem.run_pure,Oper.upon_value]
  refine hK _ _ (h _ _ (.inr ⟨g,0,rfl,by rw[zfO,hb],fun j v hj=>?_⟩))
  have hrg:=Lw.range (by rw[hv] at hown;exact hown)
  exact hrg j v (by rw[zsU,List.getElem?_append_left (List.getElem?_eq_some_iff.1 hj).1];exact hj)
end
theorem zeQ {w0:World} {b4 b6:Nat} {L:List Value} {w w':World} {sv:Value} {ss:List Nat} {qv:Value} {qs:List (List Value)} (D:Dr w0 b4 b6 L w sv ss qv qs) {cs:List Value} (h:w'=w.setCells b6 0 cs):Lw w' tAk 30 qv qs.length qs.flatten:=by
 rw[h]
 refine Lw.block D.aq (fun g hg=>?_)
 exact World.heap_setCells_other _ _ _ _ (Lw.lt D.aq g hg) (Lw.ne D.aq D.r6 (by decide) g hg)
theorem rd_none {cl:Cl} {ags:List Nat} {ls:List Ins} {rs:List (Nat × Int)} {R:Except Int (Nat × Nat)} {Q:List (List Value)} {G:Nat} {st:List Nat} {l nx:Nat} {qs:List (List Value)} (h:Rd cl ags ls rs R Q G st l nx qs) (hn:ls[nx]?=none):R=.error 106/\Q=qs:=by
 obtain⟨⟨f,Qf,h1,h2,h3⟩,_⟩:=h
 obtain⟨f',rfl⟩:∃ f',f=f'+1:=⟨f-1,by omega⟩
 unfold ev2 at h1
 rw[hn] at h1
 simp only[Prod.mk.injEq] at h1
 exact⟨h1.1.symm,by rw[h2,<-h1.2,List.append_nil]⟩
theorem chk_pg {d:List (BitVec 8)} {ls:List Ins} (h:chk d=some ls):pg d (d.length+1) 0=some ls/\0<d.length/\d.length<=1024:=by
 unfold chk at h
 split at h
 ·cases h
 rename_i h1
 cases hp:pg d (d.length+1) 0 with
 |none=>rw[hp] at h;cases h
 |some l=>
  rw[hp] at h
  simp only at h
  split at h
  ·obtain rfl:=Option.some.inj h
   exact⟨rfl,by omega,by omega⟩
  ·cases h
theorem ziA {d:List (BitVec 8)} {ls:List Ins} {m nx:Nat} {x:Ins} (hd:d.length=m) (h:chk d=some ls) (hx:ls[nx]?=some x) :
 m<=1024/\x.p<m/\x.c<28/\zgT ls m nx=x.p/\∃ b r,d.drop x.p=b :: r/\b.toNat=x.c/\ow (zaZ x.c) r<=r.length/\ro (zaZ x.c) (r.take (ow (zaZ x.c) r))=some (x.a,x.n)/\sz d x.p=1+ow (zaZ x.c) r/\zgT ls m (nx+1)=x.p+(1+ow (zaZ x.c) r):=by
 obtain⟨h1,h2,h3⟩:=chk_pg h
 obtain⟨_,h4⟩:=pg_at _ _ _ h1 (Nat.zero_le _)
 rw[hd] at h4 h3
 obtain⟨h5,s,h6,h7⟩:=h4 nx x hx
 obtain⟨b,r,e1,e2,e3,e4⟩:=zoY h6
 have hs:sz d x.p=s:=by unfold sz;rw[h6]
 have hc:=(zfW h6).1
 have hss:s=1+ow (zaZ x.c) r:=by
  rw[e1] at h6
  unfold ri at h6
  simp only at h6
  rw[e2] at h6
  split at h6
  ·cases h6
  ·split at h6
   ·cases h6
   ·split at h6
    ·cases h6
    ·simp only[Option.some.injEq,Prod.mk.injEq] at h6
     exact h6.2.2.2.symm
 exact⟨h3,h5,hc,zlN hx,b,r,e1,e2,e3,e4,by rw[hs,hss],by rw[h7,hss]⟩
theorem zdA {d:List (BitVec 8)} {p:Nat} {b:BitVec 8} {r:List (BitVec 8)} (h:d.drop p=b :: r) (i:Nat):d.getD (p+i) 0#8=(b :: r).getD i 0#8:=by
 rw[<-h,List.getD_eq_getElem?_getD,List.getD_eq_getElem?_getD,List.getElem?_drop]
theorem zmZ {c a n:Nat} {r:List (BitVec 8)} (hc:c=4\/c=5\/c=16) (h1:ow (zaZ c) r<=r.length) (h2:ro (zaZ c) (r.take (ow (zaZ c) r))=some (a,n)):ow (zaZ c) r=1/\(r.getD 0 0#8).toNat=n:=by
 have ho:zaZ c≠0/\zaZ c≠5/\zaZ c≠1:=by rcases hc with rfl|rfl|rfl <;> decide
 have hw:ow (zaZ c) r=1:=by unfold ow;rw[if_neg ho.1,if_neg ho.2.1,if_neg ho.2.2]
 refine⟨hw,?_⟩
 rw[hw] at h1 h2
 obtain⟨y,r',rfl⟩:∃ y r',r=y :: r':=by
  cases r with
  |nil=>simp at h1
  |cons y r'=>exact⟨y,r',rfl⟩
 unfold ro at h2
 rw[if_neg ho.1] at h2
 split at h2
 ·cases h2
 ·rw[if_neg ho.2.2,if_neg ho.2.1] at h2
  simp only[Option.some.injEq,Prod.mk.injEq] at h2
  exact h2.2
theorem zoQ {c a n:Nat} {r:List (BitVec 8)} (hc:c=14\/c=15) (h1:ow (zaZ c) r<=r.length) (h2:ro (zaZ c) (r.take (ow (zaZ c) r))=some (a,n)):ow (zaZ c) r=2/\(r.getD 0 0#8).toNat*256+(r.getD 1 0#8).toNat=n:=by
 have ho:zaZ c=5:=by rcases hc with rfl|rfl <;> rfl
 rw[ho] at h1 h2 ⊢
 have hw:ow 5 r=2:=rfl
 refine⟨hw,?_⟩
 rw[hw] at h1 h2
 obtain⟨y,r',rfl⟩:∃ y r',r=y :: r':=by
  cases r with
  |nil=>simp at h1
  |cons y r'=>exact⟨y,r',rfl⟩
 obtain⟨z,r2,rfl⟩:∃ y r2,r'=y :: r2:=by
  cases r' with
  |nil=>simp at h1
  |cons y r'=>exact⟨y,r',rfl⟩
 unfold ro at h2
 rw[if_neg (by decide)] at h2
 split at h2
 ·cases h2
 ·rw[if_neg (by decide),if_pos rfl] at h2
  simp only[Option.some.injEq,Prod.mk.injEq] at h2
  exact h2.2
theorem zyJ {a n:Nat} {r:List (BitVec 8)} (h1:ow (zaZ 2) r<=r.length) (h2:ro (zaZ 2) (r.take (ow (zaZ 2) r))=some (a,n)):∃ y r',r=y :: r'/\1<=y.toNat/\y.toNat<=32/\y.toNat<=r'.length/\ow (zaZ 2) r=1+y.toNat/\a=nb (r'.take y.toNat)/\n=0:=by
 have ho:zaZ 2=1:=rfl
 rw[ho] at h1 h2 ⊢
 obtain⟨y,r',rfl⟩:∃ y r',r=y :: r':=by
  cases r with
  |nil=>exact absurd h1 (by decide)
  |cons y r'=>exact⟨y,r',rfl⟩
 have hw:ow 1 (y :: r')=1+y.toNat:=rfl
 rw[hw] at h1 h2
 rw[List.length_cons] at h1
 unfold ro at h2
 rw[if_neg (by decide)] at h2
 split at h2
 ·cases h2
 ·rename_i hb
  rw[if_pos rfl] at h2
  rw[show ((y :: r').take (1+y.toNat))=y :: r'.take y.toNat by rw[Nat.add_comm,List.take_succ_cons]] at h2 hb
  simp only[List.drop_succ_cons,List.drop_zero,Option.some.injEq,Prod.mk.injEq] at h2
  have hlo:lo 1=1:=rfl
  have hhi:Go.Proofs.YtedeobikfddmgaaGreat.hi 1=32:=rfl
  rw[hlo,hhi] at hb
  simp only[List.getD_cons_zero] at hb
  exact⟨y,r',rfl,by omega,by omega,by omega,hw,h2.1.symm,h2.2.symm⟩
end Go.Proofs.YtedeobikfddmgaaGreat
