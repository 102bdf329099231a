import Derived.Test.YtedeobikfddmgaaGreatMkAA
import Derived.Test.YtedeobikfddmgaaGreatMkFh
set_option maxRecDepth 100000
set_option maxHeartbeats 16000000
namespace Go.Proofs.YtedeobikfddmgaaGreat
open Go Go.RowKit
open Sha
open Wd
def zkW (pd:List (BitVec 8)) (c:Ca) (ags:List Nat) (rs:List (Nat × Int)):(List Value × Int) × List (List Value):=
 match chk pd with
 |none=>((zR,100),[])
 |some ls=>if 0<=c.tok/\c.tok<64/\ags.length<=8/\0<=c.tm/\c.tm<=4611686018427387904/\1<=c.gas/\c.gas<=10000 then
   (zcH c.gas.toNat (ev2 c.cl ags ls rs 10001 [] c.gas.toNat 0 0).1,(ev2 c.cl ags ls rs 10001 [] c.gas.toNat 0 0).2)
  else ((zR,101),[])
theorem ztY (pd:List (BitVec 8)) (hck:chk pd=none) (hm:pd.length<9223372036854775808) (T g cg:Nat) (hcg:pd.length<=cg) (w:World) (hT:Row w T mtab 95) (hr:w.rangeAt g 0 (vB pd)):Calls Tryz.prog 25 #[.slice (some ⟨T,0,none⟩) 28 28,.slice (some ⟨g,0,none⟩) pd.length cg] w fun e w'=>e=.returned (.tuple #[.agg zP.toArray,.int .i64 100])/\Below w.heap.size w w':=by
 by_cases h:pd.length=0\/1024<pd.length
 ·refine Calls.mono (zzB T pd.length cg (some ⟨g,0,none⟩) pd rfl h hm w) ?_
  rintro e w' ⟨⟨_,q⟩,hB⟩
  exact⟨q,hB⟩
 ·refine Calls.mono (zkD T g pd.length cg pd rfl (by omega) (by omega) hcg w hT hr) ?_
  rintro e w' ⟨q|q,hB⟩
  ·obtain⟨ls,v,gs,q1,_⟩:=q
   rw[hck] at q1
   cases q1
  ·exact⟨q.2,hB⟩
theorem ziF (pd:List (BitVec 8)) (m k:Nat) (ls:List Ins) (hpd:pd.length=m) (hck:chk pd=some ls) (hk:ls.length=k) (T g cg:Nat) (hcg:m<=cg) (w:World) (hT:Row w T mtab 95) (hr:w.rangeAt g 0 (vB pd)):Calls Tryz.prog 25 #[.slice (some ⟨T,0,none⟩) 28 28,.slice (some ⟨g,0,none⟩) m cg] w fun e w'=>∃ A1 c1 gs,e=.returned (.tuple #[.agg #[.slice A1 k c1,.slice (some ⟨gs,0,none⟩) m m],.int .i64 0])/\Lw w' 97 7 (.slice A1 k c1) k (fl ls)/\Row w' gs (vI (sts ls m)) 3/\Below w.heap.size w w':=by
 have hl:=zlB hck
 refine Calls.mono (zkD T g m cg pd hpd (by omega) (by omega) hcg w hT hr) ?_
 rintro e w' ⟨h|h,hB⟩
 ·obtain⟨ls',v,gs,q1,_,rfl,q3,q4,_,_⟩:=h
  rw[hck] at q1
  obtain rfl:=Option.some.inj q1
  rw[hk] at q3
  obtain⟨A1,c1,rfl,_,_⟩:=Lw.form q3
  exact⟨A1,c1,gs,rfl,q3,q4,hB⟩
 ·rw[hck] at h
  cases h.1
theorem zgN (G:Nat) (R:Except Int (Nat × Nat)):(zcH G R).1.length=5/\(zcH G R).1.toArray.all (·.oneCell')=true:=by
 cases R with
 |error E=>exact⟨rfl,by rw[<-Array.all_toList];rfl⟩
 |ok y=>
  obtain⟨v,l⟩:=y
  refine⟨?_,?_⟩
  ·show (wq v++[_]).length=5
   rw[List.length_append,zaV]
   rfl
  ·rw[<-Array.all_toList]
   show (wq v++[_]).all _=true
   have:=zbH v
   rw[<-Array.all_toList] at this
   rw[List.all_append,this]
   rfl
theorem len24 {l:List Value} (h:l.length=24):∃ y_0 y_1 y_2 y_3 y_4 y_5 y_6 y_7 y_8 y_9 y_10 y_11 y_12 y_13 y_14 y_15 y_16 y_17 y_18 y_19 y_20 y_21 y_22 y_23,l=[y_0,y_1,y_2,y_3,y_4,y_5,y_6,y_7,y_8,y_9,y_10,y_11,y_12,y_13,y_14,y_15,y_16,y_17,y_18,y_19,y_20,y_21,y_22,y_23]:=by
 match l,h with
 |[y_0,y_1,y_2,y_3,y_4,y_5,y_6,y_7,y_8,y_9,y_10,y_11,y_12,y_13,y_14,y_15,y_16,y_17,y_18,y_19,y_20,y_21,y_22,y_23],_=>exact⟨_,_,_,_,_,_,_,_,_,_,_,_,_,_,_,_,_,_,_,_,_,_,_,_,rfl⟩
theorem len48 {l:List Value} (h:l.length=48):∃ y_0 y_1 y_2 y_3 y_4 y_5 y_6 y_7 y_8 y_9 y_10 y_11 y_12 y_13 y_14 y_15 y_16 y_17 y_18 y_19 y_20 y_21 y_22 y_23 y_24 y_25 y_26 y_27 y_28 y_29 y_30 y_31 y_32 y_33 y_34 y_35 y_36 y_37 y_38 y_39 y_40 y_41 y_42 y_43 y_44 y_45 y_46 y_47,l=[y_0,y_1,y_2,y_3,y_4,y_5,y_6,y_7,y_8,y_9,y_10,y_11,y_12,y_13,y_14,y_15,y_16,y_17,y_18,y_19,y_20,y_21,y_22,y_23,y_24,y_25,y_26,y_27,y_28,y_29,y_30,y_31,y_32,y_33,y_34,y_35,y_36,y_37,y_38,y_39,y_40,y_41,y_42,y_43,y_44,y_45,y_46,y_47]:=by
 obtain⟨y_0,y_1,y_2,y_3,y_4,y_5,y_6,y_7,y_8,y_9,y_10,y_11,y_12,y_13,y_14,y_15,y_16,y_17,y_18,y_19,y_20,y_21,y_22,y_23,h1⟩:=len24 (l:=l.take 24) (by rw[List.length_take,h];rfl)
 obtain⟨y_24,y_25,y_26,y_27,y_28,y_29,y_30,y_31,y_32,y_33,y_34,y_35,y_36,y_37,y_38,y_39,y_40,y_41,y_42,y_43,y_44,y_45,y_46,y_47,h2⟩:=len24 (l:=l.drop 24) (by rw[List.length_drop,h])
 exact⟨y_0,y_1,y_2,y_3,y_4,y_5,y_6,y_7,y_8,y_9,y_10,y_11,y_12,y_13,y_14,y_15,y_16,y_17,y_18,y_19,y_20,y_21,y_22,y_23,y_24,y_25,y_26,y_27,y_28,y_29,y_30,y_31,y_32,y_33,y_34,y_35,y_36,y_37,y_38,y_39,y_40,y_41,y_42,y_43,y_44,y_45,y_46,y_47,(List.take_append_drop 24 l).symm.trans (by rw[h1,h2];rfl)⟩
theorem zjG (T:Nat) (A1:Option Addr) (n1 c1 gs n:Nat) (L:List Value) (hL:L.length=48) (ht:TypeId) (hb G:Nat):Tryz.prog.built 79 [(0,.slice (some ⟨T,0,none⟩) 28 28),(1,.agg #[.slice A1 n1 c1,.slice (some ⟨gs,0,none⟩) n n]),(2,.agg L.toArray),(3,.iface ht (.pointer (some ⟨hb,0,none⟩))),(5,.int .i64 (G:Int))]=some (rc T (.slice A1 n1 c1) (.slice (some ⟨gs,0,none⟩) n n) L (.iface ht (.pointer (some ⟨hb,0,none⟩))) (.slice none 0 0) G 0 zW).toArray:=by
 obtain⟨y_0,y_1,y_2,y_3,y_4,y_5,y_6,y_7,y_8,y_9,y_10,y_11,y_12,y_13,y_14,y_15,y_16,y_17,y_18,y_19,y_20,y_21,y_22,y_23,y_24,y_25,y_26,y_27,y_28,y_29,y_30,y_31,y_32,y_33,y_34,y_35,y_36,y_37,y_38,y_39,y_40,y_41,y_42,y_43,y_44,y_45,y_46,y_47,rfl⟩:=len48 hL
 kernel_rfl
theorem Hst.fin {w X Z Y:World} {hb b:Nat} {rv qv iv:Value} {rs:List (Nat × Int)} {qs:List (List Value)} {inn:List (BitVec 8)} {cs:List Value} (k:Below w.heap.size w X) (h:Hst Z hb rv qv iv rs qs inn) (k2:Gro (·=hb) X Z) (k3:Gro (·=b) Z Y) (r:Row Z b cs 35) (hl:w.heap.size<=b) (hlb:hb<w.heap.size):Hst Y hb rv qv iv rs qs inn/\Gro (·=hb) w Y:=
 ⟨h.kh ⟨fun bb cs t ht rr=>k3.row rr (fun e=>by
   have hne:t≠35:=by rcases ht with h|h|h|h <;> rw[h] <;> decide
   exact zaN rr r hne e),fun bb h1 h2=>k3.block bb h2 (fun e=>by omega)⟩,((Gro.of_below k).trans k2).then k3 (fun g e=>.inr (by rw[e];exact hl))⟩
theorem zpD {inn:List (BitVec 8)} (pd:List (BitVec 8)) (m:Nat) (hpd:pd.length=m) (hm:m<9223372036854775808) (c:Ca) (hc:c.Wf) (ags:List Nat) (A:Option Addr) (ca:Nat) (g cg hb:Nat) (hcg:m<=cg) (rv iv:Value) (rs:List (Nat × Int)) (L:List Value) (hL:L=c.cs (.slice A ags.length ca)) (hck:chk pd=none) (w:World) (hr:w.rangeAt g 0 (vB pd)) (H:Hst w hb rv (.slice none 0 0) iv rs [] inn):Calls Tryz.prog 9 #[.slice (some ⟨g,0,none⟩) m cg,.agg L.toArray,.iface 46 (.pointer (some ⟨hb,0,none⟩))] w fun e w'=>e=.returned (.tuple #[.agg zR.toArray,.int .i64 100])/\∃ qv',Hst w' hb rv qv' iv rs [] inn/\Gro (·=hb) w w':=by
 have HR:Hid (w.rangeAt g 0 (vB pd)):=hr
 have HL:Hid (L=c.cs (.slice A ags.length ca)):=hL
 have HCW:Hid c.Wf:=hc
 have HLI:Hid ((Tryz.prog.info? 30).map (·.size)=some L.length):=by show _=_;rw[hL,Ca.len hc];exact zdR
 have hq:=zdQ 46 (.pointer (some ⟨hb,0,none⟩))
 have HCG:Hid (m<=cg):=hcg
 have HPD:Hid (pd.length=m):=hpd
 have HHO:Hid (Hst w hb rv (.slice none 0 0) iv rs [] inn):=H
 have HM63:Hid (m<9223372036854775808):=hm
 clear hr hL hcg hpd hc H hm
 go_enter Tryz.func9,Tryz.ntmps9
 go_upto_region 3 with (first
  |(refine zaF 30 rfl (.tmp 1) rfl L rfl ?_;intro X1 (R4:Hid (Row X1 w.heap.size L 30)) (B1:Hid (Below w.heap.size w X1)) q3;clear q3;simp only[Act.put,jA,jB,jC])
  |(refine zaT rfl rfl ?_;intro X2 (R6:Hid (Row X2 X1.heap.size zR 35)) (B2:Hid (Below X1.heap.size X1 X2)) q3;clear q3;simp only[Act.put,jA,jB,jC]))
 obtain⟨b4,hb4⟩:∃ b,b=w.heap.size:=⟨_,rfl⟩
 obtain⟨b6,hb6⟩:∃ b,b=X1.heap.size:=⟨_,rfl⟩
 have HB4:Hid (b4=w.heap.size/\w.heap.size<=b6):=⟨hb4,by rw[hb6];exact B1.out.size⟩
 have BB:Hid (Below w.heap.size w X2):=B1.out.trans (B2.out.mono B1.out.size)
 replace R4:Hid (Row X2 b4 L 30):=by rw[hb4];exact Row.below R4.out B2.out R4.out.lt
 replace R6:Hid (Row X2 b6 zR 35):=by rw[hb6];exact R6.out
 rw[<-hb4,<-hb6]
 clear hb4 hb6 B1 B2 hq
 go_upto_region 4 with (go_at_call 24;refine Calls.mono (zfG X2) ?_;rintro e X3 ⟨rfl,qt,q2⟩;have RT:Hid (Row X3 X2.heap.size mtab 95):=qt;have B3:Hid (Below w.heap.size w X3):=BB.out.trans (q2.mono BB.out.size);have R43:Hid (Row X3 b4 L 30):=Row.below R4.out q2 R4.out.lt;have R63:Hid (Row X3 b6 zR 35):=Row.below R6.out q2 R6.out.lt;clear qt q2 R4 R6 BB)
 obtain⟨T,hT⟩:∃ T,T=X2.heap.size:=⟨_,rfl⟩
 rw[<-hT] at RT
 rw[<-hT]
 clear hT
 have HRD:Hid (Calls Tryz.prog 25 #[.slice (some ⟨T,0,none⟩) 28 28,.slice (some ⟨g,0,none⟩) m cg] X3 fun e w'=>e=.returned (.tuple #[.agg zP.toArray,.int .i64 100])/\Below X3.heap.size X3 w'):=by rw[<-HPD.out];exact ztY pd hck (by rw[HPD.out];exact HM63.out) T g cg (by rw[HPD.out];exact HCG.out) X3 RT.out (zaS HR.out B3.out)
 clear hck
 go_upto_region 6 with (first
  |(go_at_call 25;refine Calls.mono HRD.out ?_;rintro e X4 ⟨rfl,q2⟩;have B4:Hid (Below w.heap.size w X4):=B3.out.trans (q2.mono B3.out.size);have R64:Hid (Row X4 b6 zR 35):=Row.below R63.out q2 R63.out.lt;clear q2)
  |(refine zbT rfl rfl ?_;intro X5 (R9:Hid (Row X5 X4.heap.size zP 72)) (B5:Hid (Below X4.heap.size X4 X5)) q3;clear q3;simp only[Act.put,jA,jB,jC])
  |(refine zaD rfl 72 (.tmp 9) (.tmp 20) rfl X4.heap.size zP zP 72 rfl rfl R9.out rfl zcC zmM ?_;intro X6 (E6:Hid (X6=_)) q2;clear q2;simp only[Act.put]))
 have BY:Below X4.heap.size X4 X6:=by rw[E6.out];exact zaC B5.out (Nat.le_refl _) _
 have B6:Hid (Below w.heap.size w X6):=B4.out.trans (BY.mono B4.out.size)
 have RZ:Hid (Row X6 b6 zR 35):=Row.below R64.out BY R64.out.lt
 clear BY E6 R9 B5 B4 R64 R43 R63 B3 RT HRD
 go_wp2_with (refine zaD rfl 35 (.tmp 6) (.tmp 25) rfl b6 zR zR 35 rfl rfl RZ.out rfl zaP zcW ?_;intro Z2 (EZ:Hid (Z2=_)) (RZ2:Hid (Row Z2 b6 zR 35));simp only[Act.put])
 have hF:=(HHO.out.below B6.out).fin B6.out (Gro.refl _ X6) (by rw[EZ.out];exact zbB b6 _ 0 X6 X6 (Gro.refl _ X6)) RZ.out HB4.out.2 HHO.out.row.lt (Y:=Z2)
 refine bodyPost_ret (zaO Tryz.results9 _ _ b6 35 zR (.int .i64 100) rfl rfl RZ2.out Tryz.underlying35 zaP) rfl ?_
 exact⟨rfl,_,hF⟩
theorem zpC {inn:List (BitVec 8)} (pd:List (BitVec 8)) (m:Nat) (hpd:pd.length=m) (hm:m<9223372036854775808) (c:Ca) (hc:c.Wf) (ags:List Nat) (A:Option Addr) (ca:Nat) (g cg hb:Nat) (hcg:m<=cg) (rv iv:Value) (rs:List (Nat × Int)) (L:List Value) (hL:L=c.cs (.slice A ags.length ca)) (ls:List Ins) (hck:chk pd=some ls) (hmay:¬ (0<=c.tok/\c.tok<64/\ags.length<=8/\0<=c.tm/\c.tm<=4611686018427387904/\1<=c.gas/\c.gas<=10000)) (w:World) (hr:w.rangeAt g 0 (vB pd)) (H:Hst w hb rv (.slice none 0 0) iv rs [] inn):Calls Tryz.prog 9 #[.slice (some ⟨g,0,none⟩) m cg,.agg L.toArray,.iface 46 (.pointer (some ⟨hb,0,none⟩))] w fun e w'=>e=.returned (.tuple #[.agg zR.toArray,.int .i64 101])/\∃ qv',Hst w' hb rv qv' iv rs [] inn/\Gro (·=hb) w w':=by
 have HMAY:Hid (¬ (0<=c.tok/\c.tok<64/\ags.length<=8/\0<=c.tm/\c.tm<=4611686018427387904/\1<=c.gas/\c.gas<=10000)):=hmay
 clear hmay
 have HR:Hid (w.rangeAt g 0 (vB pd)):=hr
 have HL:Hid (L=c.cs (.slice A ags.length ca)):=hL
 have HCW:Hid c.Wf:=hc
 have HLI:Hid ((Tryz.prog.info? 30).map (·.size)=some L.length):=by show _=_;rw[hL,Ca.len hc];exact zdR
 have hq:=zdQ 46 (.pointer (some ⟨hb,0,none⟩))
 have HCG:Hid (m<=cg):=hcg
 have HPD:Hid (pd.length=m):=hpd
 have HHO:Hid (Hst w hb rv (.slice none 0 0) iv rs [] inn):=H
 have HM63:Hid (m<9223372036854775808):=hm
 clear hr hL hcg hpd hc H hm
 go_enter Tryz.func9,Tryz.ntmps9
 go_upto_region 3 with (first
  |(refine zaF 30 rfl (.tmp 1) rfl L rfl ?_;intro X1 (R4:Hid (Row X1 w.heap.size L 30)) (B1:Hid (Below w.heap.size w X1)) q3;clear q3;simp only[Act.put,jA,jB,jC])
  |(refine zaT rfl rfl ?_;intro X2 (R6:Hid (Row X2 X1.heap.size zR 35)) (B2:Hid (Below X1.heap.size X1 X2)) q3;clear q3;simp only[Act.put,jA,jB,jC]))
 obtain⟨b4,hb4⟩:∃ b,b=w.heap.size:=⟨_,rfl⟩
 obtain⟨b6,hb6⟩:∃ b,b=X1.heap.size:=⟨_,rfl⟩
 have HB4:Hid (b4=w.heap.size/\w.heap.size<=b6):=⟨hb4,by rw[hb6];exact B1.out.size⟩
 have BB:Hid (Below w.heap.size w X2):=B1.out.trans (B2.out.mono B1.out.size)
 replace R4:Hid (Row X2 b4 L 30):=by rw[hb4];exact Row.below R4.out B2.out R4.out.lt
 replace R6:Hid (Row X2 b6 zR 35):=by rw[hb6];exact R6.out
 rw[<-hb4,<-hb6]
 clear hb4 hb6 B1 B2 hq
 go_upto_region 4 with (go_at_call 24;refine Calls.mono (zfG X2) ?_;rintro e X3 ⟨rfl,qt,q2⟩;have RT:Hid (Row X3 X2.heap.size mtab 95):=qt;have B3:Hid (Below w.heap.size w X3):=BB.out.trans (q2.mono BB.out.size);have R43:Hid (Row X3 b4 L 30):=Row.below R4.out q2 R4.out.lt;have R63:Hid (Row X3 b6 zR 35):=Row.below R6.out q2 R6.out.lt;clear qt q2 R4 R6 BB)
 obtain⟨T,hT⟩:∃ T,T=X2.heap.size:=⟨_,rfl⟩
 rw[<-hT] at RT
 rw[<-hT]
 clear hT
 obtain⟨k,hk⟩:∃ k,k=ls.length:=⟨_,rfl⟩
 have HK:Hid (k=ls.length):=hk
 have HCK:Hid (chk pd=some ls):=hck
 have HRD:Hid _:=ziF pd m k ls HPD.out hck hk.symm T g cg HCG.out X3 RT.out (zaS HR.out B3.out)
 clear hck hk
 go_upto_region 5 with (first
  |(go_at_call 25;refine Calls.mono HRD.out ?_;rintro e X4 ⟨A1,c1,gs,rfl,q3,q4,q2⟩;have LP:Hid (Lw X4 97 7 (.slice A1 k c1) k (fl ls)):=q3;have RS:Hid (Row X4 gs (vI (sts ls m)) 3):=q4;have B4:Hid (Below w.heap.size w X4):=B3.out.trans (q2.mono B3.out.size);have RT4:Hid (Row X4 T mtab 95):=Row.below RT.out q2 RT.out.lt;have R44:Hid (Row X4 b4 L 30):=Row.below R43.out q2 R43.out.lt;have R64:Hid (Row X4 b6 zR 35):=Row.below R63.out q2 R63.out.lt;clear q2 q3 q4)
  |(refine zbT rfl rfl ?_;intro X5 (R9:Hid (Row X5 X4.heap.size zP 72)) (B5:Hid (Below X4.heap.size X4 X5)) q3;clear q3;simp only[Act.put,jA,jB,jC])
  |(refine zaD rfl 72 (.tmp 9) (.tmp 20) rfl X4.heap.size [.slice A1 k c1,.slice (some ⟨gs,0,none⟩) m m] zP 72 rfl rfl R9.out rfl zcC (zjM A1 _ _ _ m) ?_;intro X6 (E6:Hid (X6=_)) (R96:Hid (Row X6 X4.heap.size [.slice A1 k c1,.slice (some ⟨gs,0,none⟩) m m] 72));simp only[Act.put]))
 have BY:Below X4.heap.size X4 X6:=by rw[E6.out];exact zaC B5.out (Nat.le_refl _) _
 obtain⟨b9,hb9⟩:∃ b,b=X4.heap.size:=⟨_,rfl⟩
 rw[<-hb9] at R96
 rw[<-hb9]
 have LP6:Hid (Lw X6 97 7 (.slice A1 k c1) k (fl ls)):=Lw.be LP.out BY
 have RS6:Hid (Row X6 gs (vI (sts ls m)) 3):=Row.below RS.out BY RS.out.lt
 have B6:Hid (Below w.heap.size w X6):=B4.out.trans (BY.mono B4.out.size)
 have RT6:Hid (Row X6 T mtab 95):=Row.below RT4.out BY RT4.out.lt
 have R46:Hid (Row X6 b4 L 30):=Row.below R44.out BY R44.out.lt
 have R66:Hid (Row X6 b6 zR 35):=Row.below R64.out BY R64.out.lt
 have hmball:=ziB L A ags.length ca c.tok c.tm c.gas (by rw[HL.out];exact Ca.at40 HCW.out _) (by rw[HL.out];exact Ca.at45 HCW.out _) (by rw[HL.out];exact Ca.at46 HCW.out _) (by rw[HL.out];exact Ca.at47 HCW.out _) X6
 have HMB:Hid _:=hmball.2 HMAY.out
 clear BY hb9 E6 R9 B5 LP RS B4 RT4 R44 R64 R43 R63 B3 RT HRD hmball
 go_upto_region 8 with (first
  |(refine zaG rfl 30 (.tmp 4) rfl b4 0 rfl L _ R46.out.all Tryz.underlying30 rfl HLI.out ?_;simp only[Act.put,jA,jB,jC])
  |(go_at_call 26;refine Calls.mono HMB.out ?_;rintro e X7 ⟨rfl,q2⟩;have B7:Hid (Below w.heap.size w X7):=B6.out.trans (q2.mono B6.out.size);have RZ:Hid (Row X7 b6 zR 35):=Row.below R66.out q2 R66.out.lt;clear q2))
 go_wp2_with (refine zaD rfl 35 (.tmp 6) (.tmp 31) rfl b6 zR zR 35 rfl rfl RZ.out rfl zaP zcW ?_;intro Z2 (EZ:Hid (Z2=_)) (RZ2:Hid (Row Z2 b6 zR 35));simp only[Act.put])
 have hF:=(HHO.out.below B7.out).fin B7.out (Gro.refl _ X7) (by rw[EZ.out];exact zbB b6 _ 0 X7 X7 (Gro.refl _ X7)) RZ.out HB4.out.2 HHO.out.row.lt (Y:=Z2)
 refine bodyPost_ret (zaO Tryz.results9 _ _ b6 35 zR (.int .i64 101) rfl rfl RZ2.out Tryz.underlying35 zaP) rfl ?_
 exact⟨rfl,_,hF⟩
end Go.Proofs.YtedeobikfddmgaaGreat
