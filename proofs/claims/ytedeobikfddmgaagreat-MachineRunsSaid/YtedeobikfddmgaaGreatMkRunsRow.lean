import Derived.Test.YtedeobikfddmgaaGreatMkFi
import Derived.Test.YtedeobikfddmgaaGreatMkFk
import Derived.Test.YtedeobikfddmgaaGreatMkFl
import Derived.Test.YtedeobikfddmgaaGreatMkAA
import Derived.Test.YtedeobikfddmgaaGreatMkFh
import Derived.Test.YtedeobikfddmgaaGreatMkDc
import Derived.Test.YtedeobikfddmgaaGreatMkHk
import Derived.Test.YtedeobikfddmgaaGreatMkFn
set_option maxRecDepth 100000
set_option maxHeartbeats 16000000
namespace Go.Proofs.YtedeobikfddmgaaGreat
open Go Go.RowKit
open Sha
open Wd
theorem run_go {inn:List (BitVec 8)} (HNX:zcN inn) (pd:List (BitVec 8)) (m:Nat) (hpd:pd.length=m) (hm:m<9223372036854775808) (c:Ca) (hc:c.Wf) (ags:List Nat) (A:Option Addr) (ca:Nat) (g cg hb:Nat) (hcg:m<=cg) (rv iv:Value) (rs:List (Nat × Int)) (L:List Value) (hL:L=c.cs (.slice A ags.length ca)) (hag:∀ a ∈ ags,a<2 ^ 256) (hrs:∀ p ∈ rs,p.1<2 ^ 256) (ls:List Ins) (hck:chk pd=some ls) (hmay:(0<=c.tok/\c.tok<64/\ags.length<=8/\0<=c.tm/\c.tm<=4611686018427387904/\1<=c.gas/\c.gas<=10000)) (G:Nat) (hG:(G:Int)=c.gas) (R:Except Int (Nat × Nat)) (Q:List (List Value)) (hev:ev2 c.cl ags ls rs 10001 [] G 0 0=(R,Q)) (RV:List Value) (RE:Int) (hRV:zcH G R=(RV,RE)) (w:World) (hav:Agv w (.slice A ags.length ca) ags) (hr:w.rangeAt g 0 (vB pd)) (H:Hst w hb rv (.slice none 0 0) iv rs [] inn):Calls Tryz.prog 9 #[.slice (some ⟨g,0,none⟩) m cg,.agg L.toArray,.iface 46 (.pointer (some ⟨hb,0,none⟩))] w fun e w'=>e=.returned (.tuple #[.agg RV.toArray,.int .i64 RE])/\∃ qv',Hst w' hb rv qv' iv rs Q inn/\Gro (·=hb) w w':=by
 have HMAY:Hid (0<=c.tok/\c.tok<64/\ags.length<=8/\0<=c.tm/\c.tm<=4611686018427387904/\1<=c.gas/\c.gas<=10000):=hmay
 have HALL:Hid (zcN inn/\(∀ a ∈ ags,a<2 ^ 256)/\(∀ p ∈ rs,p.1<2 ^ 256)/\(G:Int)=c.gas/\ev2 c.cl ags ls rs 10001 [] G 0 0=(R,Q)/\zcH G R=(RV,RE)):=⟨HNX,hag,hrs,hG,hev,hRV⟩
 have HAV:Hid (Agv w (.slice A ags.length ca) ags):=hav
 obtain⟨na,hna⟩:∃ n,n=ags.length:=⟨_,rfl⟩
 have HNA:Hid (na=ags.length):=hna
 have HRL:Hid (RV.length=5/\RV.toArray.all (·.oneCell')=true):=by have:=zgN G R;rw[hRV] at this;exact this
 clear hmay HNX hag hrs hG hev hRV hav
 rw[<-hna] at hL
 have HR:Hid (w.rangeAt g 0 (vB pd)):=hr
 have HL:Hid (L=c.cs (.slice A na ca)):=hL
 have HCW:Hid c.Wf:=hc
 have HLI:Hid ((Tryz.prog.info? 30).map (·.size)=some L.length):=by show _=_;rw[hL,Ca.len hc];exact zdR
 have hq:=zdQ 46 (.pointer (some ⟨hb,0,none⟩))
 have HCG:Hid (m<=cg):=hcg
 have HPD:Hid (pd.length=m):=hpd
 have HHO:Hid (Hst w hb rv (.slice none 0 0) iv rs [] inn):=H
 have HM63:Hid (m<9223372036854775808):=hm
 clear hna hr hL hcg hpd hc H hm
 go_enter Tryz.func9,Tryz.ntmps9
 go_upto_region 3 with (first
  |(refine zaF 30 rfl (.tmp 1) rfl L rfl ?_;intro X1 (R4:Hid (Row X1 w.heap.size L 30)) (B1:Hid (Below w.heap.size w X1)) q3;clear q3;simp only[Act.put,jA,jB,jC])
  |(refine zaT rfl rfl ?_;intro X2 (R6:Hid (Row X2 X1.heap.size zR 35)) (B2:Hid (Below X1.heap.size X1 X2)) q3;clear q3;simp only[Act.put,jA,jB,jC]))
 obtain⟨b4,hb4⟩:∃ b,b=w.heap.size:=⟨_,rfl⟩
 obtain⟨b6,hb6⟩:∃ b,b=X1.heap.size:=⟨_,rfl⟩
 have HB4:Hid (b4=w.heap.size/\w.heap.size<=b6):=⟨hb4,by rw[hb6];exact B1.out.size⟩
 have BB:Hid (Below w.heap.size w X2):=B1.out.trans (B2.out.mono B1.out.size)
 replace R4:Hid (Row X2 b4 L 30):=by rw[hb4];exact Row.below R4.out B2.out R4.out.lt
 replace R6:Hid (Row X2 b6 zR 35):=by rw[hb6];exact R6.out
 rw[<-hb4,<-hb6]
 clear hb4 hb6 B1 B2 hq
 go_upto_region 4 with (go_at_call 24;refine Calls.mono (zfG X2) ?_;rintro e X3 ⟨rfl,qt,q2⟩;have RT:Hid (Row X3 X2.heap.size mtab 95):=qt;have B3:Hid (Below w.heap.size w X3):=BB.out.trans (q2.mono BB.out.size);have R43:Hid (Row X3 b4 L 30):=Row.below R4.out q2 R4.out.lt;have R63:Hid (Row X3 b6 zR 35):=Row.below R6.out q2 R6.out.lt;clear qt q2 R4 R6 BB)
 obtain⟨T,hT⟩:∃ T,T=X2.heap.size:=⟨_,rfl⟩
 rw[<-hT] at RT
 rw[<-hT]
 clear hT
 obtain⟨k,hk⟩:∃ k,k=ls.length:=⟨_,rfl⟩
 have HK:Hid (k=ls.length):=hk
 have HCK:Hid (chk pd=some ls):=hck
 have HRD:Hid _:=ziF pd m k ls HPD.out hck hk.symm T g cg HCG.out X3 RT.out (zaS HR.out B3.out)
 clear hck hk
 go_upto_region 5 with (first
  |(go_at_call 25;refine Calls.mono HRD.out ?_;rintro e X4 ⟨A1,c1,gs,rfl,q3,q4,q2⟩;have LP:Hid (Lw X4 97 7 (.slice A1 k c1) k (fl ls)):=q3;have RS:Hid (Row X4 gs (vI (sts ls m)) 3):=q4;have B4:Hid (Below w.heap.size w X4):=B3.out.trans (q2.mono B3.out.size);have RT4:Hid (Row X4 T mtab 95):=Row.below RT.out q2 RT.out.lt;have R44:Hid (Row X4 b4 L 30):=Row.below R43.out q2 R43.out.lt;have R64:Hid (Row X4 b6 zR 35):=Row.below R63.out q2 R63.out.lt;clear q2 q3 q4)
  |(refine zbT rfl rfl ?_;intro X5 (R9:Hid (Row X5 X4.heap.size zP 72)) (B5:Hid (Below X4.heap.size X4 X5)) q3;clear q3;simp only[Act.put,jA,jB,jC])
  |(refine zaD rfl 72 (.tmp 9) (.tmp 20) rfl X4.heap.size [.slice A1 k c1,.slice (some ⟨gs,0,none⟩) m m] zP 72 rfl rfl R9.out rfl zcC (zjM A1 _ _ _ m) ?_;intro X6 (E6:Hid (X6=_)) (R96:Hid (Row X6 X4.heap.size [.slice A1 k c1,.slice (some ⟨gs,0,none⟩) m m] 72));simp only[Act.put]))
 have BY:Below X4.heap.size X4 X6:=by rw[E6.out];exact zaC B5.out (Nat.le_refl _) _
 obtain⟨b9,hb9⟩:∃ b,b=X4.heap.size:=⟨_,rfl⟩
 rw[<-hb9] at R96
 rw[<-hb9]
 have LP6:Hid (Lw X6 97 7 (.slice A1 k c1) k (fl ls)):=Lw.be LP.out BY
 have RS6:Hid (Row X6 gs (vI (sts ls m)) 3):=Row.below RS.out BY RS.out.lt
 have B6:Hid (Below w.heap.size w X6):=B4.out.trans (BY.mono B4.out.size)
 have RT6:Hid (Row X6 T mtab 95):=Row.below RT4.out BY RT4.out.lt
 have R46:Hid (Row X6 b4 L 30):=Row.below R44.out BY R44.out.lt
 have R66:Hid (Row X6 b6 zR 35):=Row.below R64.out BY R64.out.lt
 have hmball:=ziB L A na ca c.tok c.tm c.gas (by rw[HL.out];exact Ca.at40 HCW.out _) (by rw[HL.out];exact Ca.at45 HCW.out _) (by rw[HL.out];exact Ca.at46 HCW.out _) (by rw[HL.out];exact Ca.at47 HCW.out _) X6
 have HMB:Hid _:=hmball.1 (by rw[HNA.out];exact HMAY.out)
 clear BY hb9 E6 R9 B5 LP RS B4 RT4 R44 R64 R43 R63 B3 RT HRD hmball
 go_upto_region 9 with (first
  |(refine zaG rfl 30 (.tmp 4) rfl b4 0 rfl L _ R46.out.all Tryz.underlying30 rfl HLI.out ?_;simp only[Act.put,jA,jB,jC])
  |(go_at_call 26;refine Calls.mono HMB.out ?_;rintro e X7 ⟨rfl,q2⟩;have LP7:Hid (Lw X7 97 7 (.slice A1 k c1) k (fl ls)):=Lw.be LP6.out q2;have RS7:Hid (Row X7 gs (vI (sts ls m)) 3):=Row.below RS6.out q2 RS6.out.lt;have B7:Hid (Below w.heap.size w X7):=B6.out.trans (q2.mono B6.out.size);have RT7:Hid (Row X7 T mtab 95):=Row.below RT6.out q2 RT6.out.lt;have R47:Hid (Row X7 b4 L 30):=Row.below R46.out q2 R46.out.lt;have R67:Hid (Row X7 b6 zR 35):=Row.below R66.out q2 R66.out.lt;have R97:Hid (Row X7 b9 [.slice A1 k c1,.slice (some ⟨gs,0,none⟩) m m] 72):=Row.below R96.out q2 R96.out.lt;clear q2))
 have c45:X7.cell? ⟨b4,45,none⟩=some (.slice A na ca):=R47.out.cell 45 _ (by rw[HL.out];exact Ca.at45 HCW.out _)
 have HCL:Hid (Calls Tryz.prog 27 #[.slice A na ca] X7 fun e w'=>∃ A2 c2,e=.returned (.slice A2 na c2)/\Lw w' 27 4 (.slice A2 na c2) na (fw ags)/\Below X7.heap.size X7 w'):=by
  have:=zlC ags (by have:=HMAY.out;omega) (.slice A ags.length ca) X7 (by
   rcases HAV.out with ⟨h1,h2⟩|⟨g0,c0,h1,h2⟩
   ·exact .inl ⟨h1,h2⟩
   ·exact .inr ⟨g0,c0,h1,zaS h2 B7.out⟩)
  rw[<-HNA.out] at this
  exact this
 have HL45:Hid (45<L.length):=by show _<_;rw[HL.out,Ca.len HCW.out];decide
 clear HMB LP6 RS6 B6 RT6 R46 R66 R96
 go_upto_region 10 with (first
  |(go_at_call 27;refine Calls.mono HCL.out ?_;rintro e X8 ⟨Aa,cc,rfl,qa,q2⟩;have LA8:Hid (Lw X8 27 4 (.slice Aa na cc) na (fw ags)):=qa;have LP8:Hid (Lw X8 97 7 (.slice A1 k c1) k (fl ls)):=Lw.be LP7.out q2;have RS8:Hid (Row X8 gs (vI (sts ls m)) 3):=Row.below RS7.out q2 RS7.out.lt;have B8:Hid (Below w.heap.size w X8):=B7.out.trans (q2.mono B7.out.size);have RT8:Hid (Row X8 T mtab 95):=Row.below RT7.out q2 RT7.out.lt;have R48:Hid (Row X8 b4 L 30):=Row.below R47.out q2 R47.out.lt;have R68:Hid (Row X8 b6 zR 35):=Row.below R67.out q2 R67.out.lt;have R98:Hid (Row X8 b9 [.slice A1 k c1,.slice (some ⟨gs,0,none⟩) m m] 72):=Row.below R97.out q2 R97.out.lt;clear qa q2)
  |(refine zbI rfl 28 (.tmp 35) (.tmp 34) rfl b4 45 (.slice Aa na cc) L 30 rfl rfl rfl R48.out HL45.out zgU rfl ?_;intro X9 (R49:Hid (Row X9 b4 (L.set 45 (.slice Aa na cc)) 30)) (G9:Hid (Gro (·=b4) X8 X9)) q3;clear q3;simp only[Act.put]))
 obtain⟨M,hM⟩:∃ M,M=c.cs (.slice Aa na cc):=⟨_,rfl⟩
 have HM:Hid (M=c.cs (.slice Aa na cc)):=hM
 have R4M:Hid (Row X9 b4 M 30):=by rw[hM,<-Ca.set45 HCW.out (.slice A na ca),<-HL.out];exact R49.out
 have HMI:Hid ((Tryz.prog.info? 30).map (·.size)=some M.length):=by show _=_;rw[hM,Ca.len HCW.out];exact zdR
 have LA9:Hid (Lw X9 27 4 (.slice Aa na cc) na (fw ags)):=Lw.gro LA8.out G9.out (Lw.ne LA8.out R48.out (by decide))
 have LP9:Hid (Lw X9 97 7 (.slice A1 k c1) k (fl ls)):=Lw.gro LP8.out G9.out (Lw.ne LP8.out R48.out (by decide))
 have RS9:Hid (Row X9 gs (vI (sts ls m)) 3):=G9.out.row RS8.out (zaN RS8.out R48.out (by decide))
 have RT9:Hid (Row X9 T mtab 95):=G9.out.row RT8.out (zaN RT8.out R48.out (by decide))
 have R69:Hid (Row X9 b6 zR 35):=G9.out.row R68.out (zaN R68.out R48.out (by decide))
 have R99:Hid (Row X9 b9 [.slice A1 k c1,.slice (some ⟨gs,0,none⟩) m m] 72):=G9.out.row R98.out (zaN R98.out R48.out (by decide))
 have B9:Hid (Below w.heap.size w X9):=B8.out.trans (G9.out.to_below B8.out.size (fun k e=>by rw[e,HB4.out.1];exact Nat.le_refl _))
 have c47:X9.cell? ⟨b4,47,none⟩=some (.int .i64 (G:Int)):=R4M.out.cell 47 _ (by rw[hM,HALL.out.2.2.2.1];exact Ca.at47 HCW.out _)
 obtain⟨RC,hRC⟩:∃ RC,RC=rc T (.slice A1 k c1) (.slice (some ⟨gs,0,none⟩) m m) M (.iface 46 (.pointer (some ⟨hb,0,none⟩))) (.slice none 0 0) G 0 zW:=⟨_,rfl⟩
 have HRC:Hid (RC=rc T (.slice A1 k c1) (.slice (some ⟨gs,0,none⟩) m m) M (.iface 46 (.pointer (some ⟨hb,0,none⟩))) (.slice none 0 0) G 0 zW):=hRC
 have HBU:Hid (Tryz.prog.built 79 [(0,.slice (some ⟨T,0,none⟩) 28 28),(1,.agg #[.slice A1 k c1,.slice (some ⟨gs,0,none⟩) m m]),(2,.agg M.toArray),(3,.iface 46 (.pointer (some ⟨hb,0,none⟩))),(5,.int .i64 (G:Int))]=some RC.toArray):=by show _=_;rw[hRC];exact zjG T A1 k c1 gs m M (by rw[hM];exact Ca.len HCW.out _) 46 hb G
 clear hM hRC c45 R49 G9 LA8 LP8 RS8 B8 RT8 R48 R68 R98 HCL LP7 RS7 B7 RT7 R47 R67 R97 HL45 HL
 go_upto_region 11 with (first
  |(refine zaG rfl 72 (.tmp 9) rfl b9 0 rfl [.slice A1 k c1,.slice (some ⟨gs,0,none⟩) m m] _ R99.out.all Tryz.underlying72 rfl zcC ?_;simp only[Act.put,jA,jB,jC])
  |(refine zaG rfl 30 (.tmp 4) rfl b4 0 rfl M _ R4M.out.all Tryz.underlying30 rfl HMI.out ?_;simp only[Act.put,jA,jB,jC])
  |(refine zbU rfl 79 _ rfl [(0,.slice (some ⟨T,0,none⟩) 28 28),(1,.agg #[.slice A1 k c1,.slice (some ⟨gs,0,none⟩) m m]),(2,.agg M.toArray),(3,.iface 46 (.pointer (some ⟨hb,0,none⟩))),(5,.int .i64 (G:Int))] rfl RC HBU.out ?_;simp only[Act.put,jA,jB,jC])
  |(refine zaF 79 rfl (.tmp 42) rfl RC rfl ?_;intro Y (RR:Hid (Row Y X9.heap.size RC 79)) (BY:Hid (Below X9.heap.size X9 Y)) q3;clear q3;simp only[Act.put,jA,jB,jC]))
 have hok:=zlB HCK.out
 have hmy:=HMAY.out
 have hbig:4611686018427387905<2 ^ 256:=Nat.lt_of_lt_of_le (by decide:4611686018427387905<2 ^ 63) (Nat.pow_le_pow_right (by decide) (by decide))
 have HLR:Hid (Lr X9 hb X9.heap.size T gs m (.slice A1 k c1) M (.slice Aa na cc) ls ags rv iv rs inn Y (.slice none 0 0) [] G 0 zW (.slice none 0 0) []):=
  ⟨X9,rfl,Gro.refl _ _,⟨by rw[<-HRC.out];exact RR.out,by rw[HM.out];exact Ca.len HCW.out _,rfl,Lw.nil _ _ _,Row.below RT9.out BY.out RT9.out.lt,(by rw[<-HK.out];exact Lw.be LP9.out BY.out),Row.below RS9.out BY.out RS9.out.lt,by rw[HM.out];exact Ca.at45 HCW.out _,(by rw[<-HNA.out];exact Lw.be LA9.out BY.out),(fun g e=>by cases e),BY.out,Nat.le_refl _,(fun g e=>by cases e),(fun _ _ q=>q)⟩,HHO.out.below (B9.out.trans (BY.out.mono B9.out.size)),(fun g e=>by cases e)⟩
 have HVA:Hid (zpW (2 ^ 256) c.cl ags ls rs):=⟨Nat.lt_trans (by decide) hbig,fun h1 h2 h3=>(zrM h1 h2 h3).1,HALL.out.2.1,by omega,ztM,(by show c.tok.toNat<_;exact Nat.lt_trans (by omega:c.tok.toNat<4611686018427387905) hbig),HCW.out.amt,(by show c.tm.toNat<_;exact Nat.lt_trans (by omega:c.tm.toNat<4611686018427387905) hbig),hok.2.2.2.1,HALL.out.2.2.1,hok.2.2.2.2.1⟩
 have HAL:Hid _:=zrI HALL.out.1 X9 hb X9.heap.size T gs m (HHO.out.below B9.out).row.lt (.slice A1 k c1) M (.slice Aa na cc) ls ags rv iv rs c.cl (by rw[HM.out];exact Ca.inC HCW.out _ hmy.1 hmy.2.1 hmy.2.2.2.1 hmy.2.2.2.2.1) HVA.out hok.1 hok.2.1 (by rw[<-HPD.out];exact hok.2.2.1) G (by have:=HALL.out.2.2.2.1;omega) (by rw[HM.out,HALL.out.2.2.2.1];exact Ca.at47 HCW.out _) (.slice none 0 0) zW (.slice none 0 0) R Q HALL.out.2.2.2.2.1 RV RE HALL.out.2.2.2.2.2 Y HLR.out
 clear c47 HLR RR hok hmy hbig HVA
 go_wp2_with (first
  |(go_at_call 28;refine Calls.mono HAL.out ?_;rintro e Z ⟨rfl,qv2,q1,q2⟩;have RZ:Hid (Row Z b6 zR 35):=q2.row R69.out (fun e=>zaN R69.out (HHO.out.below B9.out).row (by decide) e);have HZ:Hid (Hst Z hb rv qv2 iv rs Q inn/\Gro (·=hb) X9 Z):=⟨q1,q2⟩;clear q1 q2)
  |(refine zaD rfl 35 (.tmp 6) (.tmp 46) rfl b6 RV zR 35 rfl rfl RZ.out HRL.out.1 (by rw[HRL.out.1];exact zaP) HRL.out.2 ?_;intro Z2 (EZ:Hid (Z2=_)) (RZ2:Hid (Row Z2 b6 RV 35));simp only[Act.put]))
 have hF:=HZ.out.1.fin B9.out HZ.out.2 (by rw[EZ.out];exact zbB b6 _ 0 Z Z (Gro.refl _ Z)) RZ.out HB4.out.2 HHO.out.row.lt (Y:=Z2)
 refine bodyPost_ret (zaO Tryz.results9 _ _ b6 35 RV (.int .i64 RE) rfl rfl RZ2.out Tryz.underlying35 (by rw[HRL.out.1];exact zaP)) rfl ?_
 exact⟨rfl,_,hF⟩
theorem run_all {inn:List (BitVec 8)} (HNX:zcN inn) (pd:List (BitVec 8)) (m:Nat) (hpd:pd.length=m) (hm:m<9223372036854775808) (c:Ca) (hc:c.Wf) (ags:List Nat) (A:Option Addr) (ca:Nat) (g cg hb:Nat) (hcg:m<=cg) (rv iv:Value) (rs:List (Nat × Int)) (L:List Value) (hL:L=c.cs (.slice A ags.length ca)) (hag:∀ a ∈ ags,a<2 ^ 256) (hrs:∀ p ∈ rs,p.1<2 ^ 256) (RV:List Value) (RE:Int) (Q:List (List Value)) (hmr:zkW pd c ags rs=((RV,RE),Q)) (w:World) (hav:ags.length<=8->Agv w (.slice A ags.length ca) ags) (hr:w.rangeAt g 0 (vB pd)) (H:Hst w hb rv (.slice none 0 0) iv rs [] inn):Calls Tryz.prog 9 #[.slice (some ⟨g,0,none⟩) m cg,.agg L.toArray,.iface 46 (.pointer (some ⟨hb,0,none⟩))] w fun e w'=>e=.returned (.tuple #[.agg RV.toArray,.int .i64 RE])/\∃ qv',Hst w' hb rv qv' iv rs Q inn/\Gro (·=hb) w w':=by
 unfold zkW at hmr
 cases hck:chk pd with
 |none=>
  rw[hck] at hmr
  simp only[Prod.mk.injEq] at hmr
  obtain⟨⟨rfl,rfl⟩,rfl⟩:=hmr
  exact zpD pd m hpd hm c hc ags A ca g cg hb hcg rv iv rs L hL hck w hr H
 |some ls=>
  rw[hck] at hmr
  simp only at hmr
  split at hmr
  ·rename_i hmay
   obtain⟨h1,h2⟩:=Prod.mk.inj hmr
   exact run_go HNX pd m hpd hm c hc ags A ca g cg hb hcg rv iv rs L hL hag hrs ls hck hmay c.gas.toNat (by omega) _ Q (Prod.ext rfl h2) RV RE h1 w (hav (by omega)) hr H
  ·rename_i hmay
   simp only[Prod.mk.injEq] at hmr
   obtain⟨⟨rfl,rfl⟩,rfl⟩:=hmr
   exact zpC pd m hpd hm c hc ags A ca g cg hb hcg rv iv rs L hL ls hck hmay w hr H
end Go.Proofs.YtedeobikfddmgaaGreat
namespace Go.Proofs.YtedeobikfddmgaaGreat
open Go Go.RowKit
open Sha
open Wd
theorem szU8J (w:World):(sizeOf 5).run Tryz.prog w=.ok 1 w:=by
 cases hi:Tryz.prog.info? 5 with
 |none=>have:=zfD;rw[hi] at this;cases this
 |some i=>have:=zfD;rw[hi] at this;simp at this;simp [sizeOf,typeInfo,hi,this]
theorem zpL (l:List (BitVec 8)):(l.map fun b=>UInt8.ofBitVec b).length=l.length:=List.length_map _
theorem zpO (l:List (BitVec 8)):vB l=(l.map fun b=>UInt8.ofBitVec b).map Extern.Stop.cell:=by
 unfold vB
 rw[List.map_map]
 rfl
theorem yaB (l r:List (BitVec 8)):((l.map fun b=>UInt8.ofBitVec b)==(r.map fun b=>UInt8.ofBitVec b))=decide (l=r):=by
 rw[Bool.eq_iff_iff]
 simp only[beq_iff_eq,decide_eq_true_eq]
 constructor
 ·intro h
  have:=congrArg (List.map UInt8.toBitVec) h
  simpa [List.map_map,Function.comp_def] using this
 ·rintro rfl;rfl
theorem eq_byJ (d:Nat) (w:World) (t:TypeId) (n:Nat) (ht:Tryz.prog.underlying t=some (.array n 5)) (l r:List (BitVec 8)) (hl:l.length=n) (hr:r.length=n):(Op.equalIn (d+2) t (.agg (vB l).toArray) (.agg (vB r).toArray)).run Tryz.prog w=.ok (decide (l=r)) w:=by
 have q:=run_equalIn_bytes (P:=Tryz.prog) w d t 5 n ht Tryz.underlying5 szU8J (l.map fun b=>UInt8.ofBitVec b) (r.map fun b=>UInt8.ofBitVec b) (by rw[zpL,hl]) (by rw[zpL,hr])
 rw[yaB,<-zpO,<-zpO] at q
 exact q
theorem zeL (w:World) (xs:List Value) (o:Nat) (k:Int) (h:xs[o]?=some (.int .i64 k)):(part 3 xs.toArray o).run Tryz.prog w=.ok (.int .i64 k) w:=by
 simp [part,isAgg,run_underlying Tryz.underlying3,h]
theorem zdE (w:World) (t:TypeId) (n:Nat) (hs:(Tryz.prog.info? t).map (·.size)=some n) (ha:∀ w,(isAgg t).run Tryz.prog w=.ok true w) (xs:List Value) (o:Nat) (Lx:List Value) (h:(xs.drop o).take n=Lx):(part t xs.toArray o).run Tryz.prog w=.ok (.agg Lx.toArray) w:=by
 cases hi:Tryz.prog.info? t with
 |none=>rw[hi] at hs;cases hs
 |some i=>
  have hsz:i.size=n:=by rw[hi] at hs;simpa using hs
  have hz:∀ w,(sizeOf t).run Tryz.prog w=.ok n w:=fun w=>by simp [sizeOf,typeInfo,hi,hsz]
  simp [part,Sem.run_bind,ha,hz]
  exact h
theorem zeM (d : Nat) (w : World) (xs ys : Array Value) (f : Field) (fs : List Field) (t : TypeId) (o : Nat) (hf : (f.type, f.offset, decide (f.name = "_")) = (t, o, false)) (a b : Value) (T : Bool) (ha : (part t xs o).run Tryz.prog w = .ok a w) (hb : (part t ys o).run Tryz.prog w = .ok b w) (he : (Op.equalIn d t a b).run Tryz.prog w = .ok T w) (S : Bool) (hS : (Op.eqFields d xs ys fs).run Tryz.prog w = .ok S w) : (Op.eqFields d xs ys (f :: fs)).run Tryz.prog w = .ok (T && S) w := by
 simp only[Prod.mk.injEq,decide_eq_false_iff_not] at hf
 obtain⟨rfl,rfl,hn⟩:=hf
 unfold Op.eqFields
 rw[if_pos hn]
 simp only[Sem.run_bind,ha,hb,he,Result.andThen_ok]
 cases T with
 |false=>simp
 |true=>simp [hS]
theorem zdM {α β:Type} {g:α->β} {l:List α} {b:β} {bs:List β} (h:l.map g=b :: bs):∃ x xs,l=x :: xs/\g x=b/\xs.map g=bs:=by
 cases l with
 |nil=>cases h
 |cons x xs=>rw[List.map_cons] at h;injection h with h1 h2;exact⟨x,xs,rfl,h1,h2⟩
theorem zsL (d:Nat) (w:World) (xs ys:Array Value):(Op.eqFields d xs ys []).run Tryz.prog w=.ok true w:=by simp [Op.eqFields]
theorem zjF (w:World):(isAgg 27).run Tryz.prog w=.ok true w:=by simp [isAgg,run_underlying Tryz.underlying27]
theorem aggJ_A (w:World):(isAgg 24).run Tryz.prog w=.ok true w:=by simp [isAgg,run_underlying Tryz.underlying24]
theorem ztB:(Tryz.prog.info? 24).map (·.size)=some 20:=by kernel_rfl
theorem znK (w:World) (d m:Nat):(Op.equalIn (d+2) 27 (.agg (wq m).toArray) (.agg (wq m).toArray)).run Tryz.prog w=.ok true w:=by
 have q:=zeE (P:=Tryz.prog) (w:=w) d 27 25 4 Tryz.underlying27 Tryz.underlying25 sz_u64 (dgs m 4) (dgs m 4) (zaH _ _) (zaH _ _)
 rw[decide_eq_true rfl] at q
 exact q
theorem zsQ : (Tryz.prog.fieldsOf tAk).toList.map (fun f => (f.type, f.offset, decide (f.name = "_"))) = [(3, 0, false), (27, 1, false), (27, 5, false), (3, 9, false), (24, 10, false)] := by kernel_rfl
theorem und_AkF:Tryz.prog.underlying tAk=some (.struct (Tryz.prog.fieldsOf tAk)):=by kernel_rfl
theorem held_Ak:Tryz.prog.stoodInHeld tAk=false:=by kernel_rfl
theorem guardAk:Tryz.prog.eqGuardType Tryz.prog.depth tAk=false:=by kernel_rfl
theorem zsR : (Tryz.prog.fieldsOf 35).toList.map (fun f => (f.type, f.offset, decide (f.name = "_"))) = [(27, 0, false), (3, 4, false)] := by kernel_rfl
theorem und_RnF:Tryz.prog.underlying 35=some (.struct (Tryz.prog.fieldsOf 35)):=by kernel_rfl
theorem held_Rn:Tryz.prog.stoodInHeld 35=false:=by kernel_rfl
theorem guardRn:Tryz.prog.eqGuardType Tryz.prog.depth 35=false:=by kernel_rfl
theorem Ask1.len {q:List Value} (h:Ask1 q):q.length=30:=by
 obtain⟨k,a,b,t,ad,h1,rfl⟩:=h
 exact zeH _ _ _ _ _ (by rw[zcV,h1])
theorem selfAk (w:World) (d:Nat) (q:List Value) (h:Ask1 q):(Op.equalIn (d+4) tAk (.agg q.toArray) (.agg q.toArray)).run Tryz.prog w=.ok true w:=by
 obtain⟨k,a,b,t,ad,hl,rfl⟩:=h
 rw[run_equalIn_agg w (d+3) tAk _ _ und_AkF held_Ak]
 obtain⟨f0,l0,e0,g0,h0⟩:=zdM zsQ
 obtain⟨f1,l1,e1,g1,h1⟩:=zdM h0
 obtain⟨f2,l2,e2,g2,h2⟩:=zdM h1
 obtain⟨f3,l3,e3,g3,h3⟩:=zdM h2
 obtain⟨f4,l4,e4,g4,h4⟩:=zdM h3
 obtain rfl:l4=[]:=List.map_eq_nil_iff.1 h4
 rw[e0,e1,e2,e3,e4]
 have p0:(aq k a b t (vB ad))[0]?=some (.int .i64 (k:Int)):=rfl
 have p1:((aq k a b t (vB ad)).drop 1).take 4=wq a:=rfl
 have p2:((aq k a b t (vB ad)).drop 5).take 4=wq b:=rfl
 have p3:(aq k a b t (vB ad))[9]?=some (.int .i64 (t:Int)):=rfl
 have p4:((aq k a b t (vB ad)).drop 10).take 20=vB ad:=by
  show (vB ad).take 20=vB ad
  rw[List.take_of_length_le (by rw[zcV,hl];decide)]
 have:=zeM (d+3) w _ _ f0 [f1,f2,f3,f4] 3 0 g0 _ _ _ (zeL w _ 0 _ p0) (zeL w _ 0 _ p0) (run_equalIn_int w (d+2) 3 .i64 .i64 k k Tryz.underlying3) _
  (zeM (d+3) w _ _ f1 [f2,f3,f4] 27 1 g1 _ _ _ (zdE w 27 4 zfB zjF _ 1 _ p1) (zdE w 27 4 zfB zjF _ 1 _ p1) (znK w (d+1) a) _
  (zeM (d+3) w _ _ f2 [f3,f4] 27 5 g2 _ _ _ (zdE w 27 4 zfB zjF _ 5 _ p2) (zdE w 27 4 zfB zjF _ 5 _ p2) (znK w (d+1) b) _
  (zeM (d+3) w _ _ f3 [f4] 3 9 g3 _ _ _ (zeL w _ 9 _ p3) (zeL w _ 9 _ p3) (run_equalIn_int w (d+2) 3 .i64 .i64 t t Tryz.underlying3) _
  (zeM (d+3) w _ _ f4 [] 24 10 g4 _ _ _ (zdE w 24 20 ztB aggJ_A _ 10 _ p4) (zdE w 24 20 ztB aggJ_A _ 10 _ p4) (eq_byJ (d+1) w 24 20 Tryz.underlying24 ad ad hl hl) _ (zsL (d+3) w _ _)))))
 rw[this]
 simp
theorem selfRn (w:World) (d m:Nat) (g:Int) (L:List Value) (hL:L=wq m++[.int .i64 g]):(Op.equalIn (d+4) 35 (.agg L.toArray) (.agg L.toArray)).run Tryz.prog w=.ok true w:=by
 subst hL
 rw[run_equalIn_agg w (d+3) 35 _ _ und_RnF held_Rn]
 obtain⟨f0,l0,e0,g0,h0⟩:=zdM zsR
 obtain⟨f1,l1,e1,g1,h1⟩:=zdM h0
 obtain rfl:l1=[]:=List.map_eq_nil_iff.1 h1
 rw[e0,e1]
 have p0:((wq m++[Value.int .i64 g]).drop 0).take 4=wq m:=rfl
 have p1:(wq m++[Value.int .i64 g])[4]?=some (.int .i64 g):=rfl
 have:=zeM (d+3) w _ _ f0 [f1] 27 0 g0 _ _ _ (zdE w 27 4 zfB zjF _ 0 _ p0) (zdE w 27 4 zfB zjF _ 0 _ p0) (znK w (d+1) m) _
  (zeM (d+3) w _ _ f1 [] 3 4 g1 _ _ _ (zeL w _ 4 _ p1) (zeL w _ 4 _ p1) (run_equalIn_int w (d+2) 3 .i64 .i64 g g Tryz.underlying3) _ (zsL (d+3) w _ _))
 rw[this]
 simp
theorem flat30 (Q:List (List Value)) (hQ:∀ q ∈ Q,q.length=30) (i:Nat) (q:List Value) (h:Q[i]?=some q) (j:Nat) (u:Value) (hj:q[j]?=some u):Q.flatten[i*30+j]?=some u:=by
 induction Q generalizing i with
 |nil=>cases h
 |cons y r ih=>
  rw[List.flatten_cons]
  cases i with
  |zero=>
   obtain rfl:y=q:=by simpa using h
   rw[Nat.zero_mul,Nat.zero_add,List.getElem?_append_left (List.getElem?_eq_some_iff.1 hj).1]
   exact hj
  |succ k=>
   have hy:=hQ y (by simp)
   rw[List.getElem?_append_right (by rw[hy];omega),hy,show (k+1)*30+j-30=k*30+j by omega]
   exact ih (fun q hq=>hQ q (by simp [hq])) k (by simpa using h)
section
variable {Q:Exit->Act->World->Prop} {o:Oper} {a:Act} {w:World} {K:Act->World->Prop}
theorem yaH (x y:Operand) (yt:TypeId) (ho:o.op=.binOp .neq tAk x y yt) (q:List Value) (hq:Ask1 q) (hx:a.eval x=.agg q.toArray) (hy:a.eval y=.agg q.toArray) (h:K (a.put o.dst (.bool false)) w):Oper.wp Tryz.prog o a w K Q:=by
 have hr:(binOp .neq tAk (.agg q.toArray) (.agg q.toArray)).run Tryz.prog w=.ok (.bool false) w:=by rw[run_neq_struct,selfAk w 9996 q hq];rfl
 unfold Oper.wp execOp
 simp only[ho,hx,hy,Sem.run_bind,run_eqGuard_agg w .neq tAk x y _ _ guardAk,Result.andThen_ok,hr,Sem.run_pure,Oper.upon_value]
 exact h
theorem zvJ {x y:Operand} (ho:o.op=.indexAddr znN x y) (g n c i:Nat) (hx:a.eval x=.slice (some ⟨g,0,none⟩) n c) (hy:a.eval y=.int .i64 (i:Int)) (hi:i<n) (h:K (a.put o.dst (.pointer (some ⟨g,i*30,none⟩))) w):Oper.wp Tryz.prog o a w K Q:=by
 have h1:¬ ((i:Int)<0):=by omega
 have h2:(i:Int)<(n:Int):=by omega
 unfold Oper.wp execOp
 simp only[ho,hx,hy]
 go_simp
 exact h
end
theorem zuH (Q:List (List Value)) (hQ:∀ q ∈ Q,Ask1 q) (n:Nat) (hn:n=Q.length) (hb:n<=100000) (Aa Ab:Option Addr) (ca cb:Nat) (w:World) (ha:Qin w Aa Q) (hb2:Qin w Ab Q):Calls Tryz.prog 7 #[.slice Aa n ca,.slice Ab n cb] w fun e w'=>e=.returned (.bool true)/\Below w.heap.size w w':=by
 have HA:Hid (Qin w Aa Q/\Qin w Ab Q):=⟨ha,hb2⟩
 have HQ:Hid (∀ q ∈ Q,Ask1 q):=hQ
 have HN:Hid (n=Q.length):=hn
 clear ha hb2 hQ hn
 go_enter Tryz.func7,Tryz.ntmps7
 go_wp2
 go_loopw [5] (fun i wr=>∃ t:Nat,t<=n/\i=.int .i64 (t:Int)/\Below w.heap.size w wr) (fun i _=>n-(intOf i).toNat)
 case atStart=>exact⟨0,Nat.zero_le _,rfl,Below.refl _ _⟩
 case round=>
  obtain⟨t,ht,rfl,hbw⟩:=hrel
  have HBW:Hid (Below w.heap.size w wr):=hbw
  clear hbw
  by_cases hlt:t<n
  ·obtain⟨x,hx⟩:∃ x,Q[t]?=some x:=⟨_,List.getElem?_eq_getElem (by rw[<-HN.out];exact hlt)⟩
   have hne:Q ≠ []:=fun e=>by rw[e] at hx;cases hx
   obtain⟨g1,rfl,r1⟩:=HA.out.1.resolve_left hne
   obtain⟨g2,rfl,r2⟩:=HA.out.2.resolve_left hne
   have HX:Hid (Ask1 x):=HQ.out x (List.mem_of_getElem? hx)
   have HIX:Hid ((Tryz.prog.info? tAk).map (·.size)=some x.length):=by show _=_;rw[HX.out.len];exact ztC
   have HLT:Hid (t<n):=hlt
   have rr:∀ {g:Nat},w.rangeAt g 0 Q.flatten->w.rangeAt g (t*30) x:=fun r j u hj=>by
    have:=r (t*30+j) u (flat30 Q (fun q hq=>(HQ.out q hq).len) t x hx j u hj)
    rwa [Nat.zero_add] at this
   obtain⟨c1,hc1⟩:∃ c,c=ca:=⟨_,rfl⟩
   obtain⟨c2,hc2⟩:∃ c,c=cb:=⟨_,rfl⟩
   rw[<-hc1,<-hc2]
   clear hx hc1 hc2 hne
   go_upto_region 6 with fail
   obtain⟨V,hV⟩:∃ V,V=wr:=⟨_,rfl⟩
   have HR1:Hid (∀ X,Below V.heap.size V X->X.rangeAt g1 (t*30) x):=fun X k=>zaS (rr r1) (HBW.out.trans ((hV ▸ k:Below wr.heap.size wr X).mono HBW.out.size))
   have HR2:Hid (∀ X,Below V.heap.size V X->X.rangeAt g2 (t*30) x):=fun X k=>zaS (rr r2) (HBW.out.trans ((hV ▸ k:Below wr.heap.size wr X).mono HBW.out.size))
   rw[<-hV] at HBW
   rw[<-hV]
   have hb1:=Below.refl V.heap.size V
   clear hV r1 r2 rr
   refine zeB fun a0 ha0=>?_
   have hsz:a0.tmps.size=26:=by rw[ha0];rfl
   have zs0:a0.eval (.tmp 0)=.slice (some ⟨g1,0,none⟩) n c1:=by rw[ha0];rfl
   have zs1:a0.eval (.tmp 1)=.slice (some ⟨g2,0,none⟩) n c2:=by rw[ha0];rfl
   have zs5:a0.eval (.tmp 5)=.int .i64 (t:Int):=by rw[ha0];rfl
   obtain⟨D,hD⟩:∃ D:List (Tmp × SP),D=[(17,SP.is (.slice (some ⟨g1,0,none⟩) n c1)),(18,SP.is (.int .i64 (t:Int))),(19,SP.is (.pointer (some ⟨g1,t*30,none⟩))),(20,SP.is (.agg x.toArray)),(21,SP.is (.slice (some ⟨g2,0,none⟩) n c2)),(22,SP.is (.int .i64 (t:Int))),(23,SP.is (.pointer (some ⟨g2,t*30,none⟩))),(24,SP.is (.agg x.toArray)),(25,SP.is (.bool false))]:=⟨_,rfl⟩
   refine zbV (by kernel_rfl) (fun listed ac W=>listed.size=9/\Fp D a0 listed ac W/\Below V.heap.size V W) ?_ ?_ ?_
   ·exact⟨by simp,Fp.start D a0 _ _,Below.drew hb1⟩
   ·clear ha0 hb1
    intro listed ac W k hI hdn hk
    obtain⟨hl,hF,hb1⟩:=hI
    have hk1:k<9:=List.mem_range.1 (List.mem_filter.1 hk).1
    have hl2:∀ j,(listed.setIfInBounds j true).size=9:=fun j=>by rw[Array.size_setIfInBounds];exact hl
    rcases (show k=0\/k=1\/k=2\/k=3\/k=4\/k=5\/k=6\/k=7\/k=8 by omega) with rfl|rfl|rfl|rfl|rfl|rfl|rfl|rfl|rfl
    ·have hk3:=hk
     exact zaE rfl rfl (zbJ (ac.eval (.tmp 0)) rfl rfl ⟨hl2 0,(hF.put 0 17 (SP.is (.slice (some ⟨g1,0,none⟩) n c1)) (ac.eval (.tmp 0)) (by rw[hD];rfl) (((hF.keep 0 (by rw[hD];rfl)).trans zs0)) (by rw[hD];rfl) (by rw[hsz];decide) (by rw[hl];decide)),hb1⟩)
    ·have hk3:=hk
     exact zaE rfl rfl (zbJ (ac.eval (.tmp 5)) rfl rfl ⟨hl2 1,(hF.put 1 18 (SP.is (.int .i64 (t:Int))) (ac.eval (.tmp 5)) (by rw[hD];rfl) (((hF.keep 5 (by rw[hD];rfl)).trans zs5)) (by rw[hD];rfl) (by rw[hsz];decide) (by rw[hl];decide)),hb1⟩)
    ·have hk3:=hk
     have e0:=(hF.done 0 (17,SP.is (.slice (some ⟨g1,0,none⟩) n c1)) (by rw[hD];rfl) (zaI hk 0 (by kernel_rfl)))
     have e1:=(hF.done 1 (18,SP.is (.int .i64 (t:Int))) (by rw[hD];rfl) (zaI hk 1 (by kernel_rfl)))
     exact zaE rfl rfl (zvJ rfl g1 n c1 t e0 e1 HLT.out ⟨hl2 2,(hF.put 2 19 (SP.is (.pointer (some ⟨g1,t*30,none⟩))) (.pointer (some ⟨g1,t*30,none⟩)) (by rw[hD];rfl) rfl (by rw[hD];rfl) (by rw[hsz];decide) (by rw[hl];decide)),hb1⟩)
    ·have hk3:=hk
     have e0:=(hF.done 2 (19,SP.is (.pointer (some ⟨g1,t*30,none⟩))) (by rw[hD];rfl) (zaI hk 2 (by kernel_rfl)))
     exact zaE rfl rfl (wp_load_mid tAk (.tmp 19) rfl g1 (t*30) e0 x _ (HR1.out W hb1) Tryz.underlying59 rfl HIX.out ⟨hl2 3,(hF.put 3 20 (SP.is (.agg x.toArray)) (.agg x.toArray) (by rw[hD];rfl) rfl (by rw[hD];rfl) (by rw[hsz];decide) (by rw[hl];decide)),hb1⟩)
    ·have hk3:=hk
     exact zaE rfl rfl (zbJ (ac.eval (.tmp 1)) rfl rfl ⟨hl2 4,(hF.put 4 21 (SP.is (.slice (some ⟨g2,0,none⟩) n c2)) (ac.eval (.tmp 1)) (by rw[hD];rfl) (((hF.keep 1 (by rw[hD];rfl)).trans zs1)) (by rw[hD];rfl) (by rw[hsz];decide) (by rw[hl];decide)),hb1⟩)
    ·have hk3:=hk
     exact zaE rfl rfl (zbJ (ac.eval (.tmp 5)) rfl rfl ⟨hl2 5,(hF.put 5 22 (SP.is (.int .i64 (t:Int))) (ac.eval (.tmp 5)) (by rw[hD];rfl) (((hF.keep 5 (by rw[hD];rfl)).trans zs5)) (by rw[hD];rfl) (by rw[hsz];decide) (by rw[hl];decide)),hb1⟩)
    ·have hk3:=hk
     have e0:=(hF.done 4 (21,SP.is (.slice (some ⟨g2,0,none⟩) n c2)) (by rw[hD];rfl) (zaI hk 4 (by kernel_rfl)))
     have e1:=(hF.done 5 (22,SP.is (.int .i64 (t:Int))) (by rw[hD];rfl) (zaI hk 5 (by kernel_rfl)))
     exact zaE rfl rfl (zvJ rfl g2 n c2 t e0 e1 HLT.out ⟨hl2 6,(hF.put 6 23 (SP.is (.pointer (some ⟨g2,t*30,none⟩))) (.pointer (some ⟨g2,t*30,none⟩)) (by rw[hD];rfl) rfl (by rw[hD];rfl) (by rw[hsz];decide) (by rw[hl];decide)),hb1⟩)
    ·have hk3:=hk
     have e0:=(hF.done 6 (23,SP.is (.pointer (some ⟨g2,t*30,none⟩))) (by rw[hD];rfl) (zaI hk 6 (by kernel_rfl)))
     exact zaE rfl rfl (wp_load_mid tAk (.tmp 23) rfl g2 (t*30) e0 x _ (HR2.out W hb1) Tryz.underlying59 rfl HIX.out ⟨hl2 7,(hF.put 7 24 (SP.is (.agg x.toArray)) (.agg x.toArray) (by rw[hD];rfl) rfl (by rw[hD];rfl) (by rw[hsz];decide) (by rw[hl];decide)),hb1⟩)
    ·have hk3:=hk
     have e0:=(hF.done 3 (20,SP.is (.agg x.toArray)) (by rw[hD];rfl) (zaI hk 3 (by kernel_rfl)))
     have e1:=(hF.done 7 (24,SP.is (.agg x.toArray)) (by rw[hD];rfl) (zaI hk 7 (by kernel_rfl)))
     exact zaE rfl rfl (yaH (.tmp 20) (.tmp 24) _ rfl x HX.out e0 e1 ⟨hl2 8,(hF.put 8 25 (SP.is (.bool false)) (.bool false) (by rw[hD];rfl) rfl (by rw[hD];rfl) (by rw[hsz];decide) (by rw[hl];decide)),hb1⟩)
   ·clear hb1
    intro listed ac W hI hr
    obtain⟨hl,hF,hb1⟩:=hI
    have hall:=zcL (by kernel_rfl) hl hr
    have h17:ac.eval (.tmp 17)=.slice (some ⟨g1,0,none⟩) n c1:=hF.done 0 (17,SP.is (.slice (some ⟨g1,0,none⟩) n c1)) (by rw[hD];rfl) (hall 0 (by decide))
    have h18:ac.eval (.tmp 18)=.int .i64 (t:Int):=hF.done 1 (18,SP.is (.int .i64 (t:Int))) (by rw[hD];rfl) (hall 1 (by decide))
    have h19:ac.eval (.tmp 19)=.pointer (some ⟨g1,t*30,none⟩):=hF.done 2 (19,SP.is (.pointer (some ⟨g1,t*30,none⟩))) (by rw[hD];rfl) (hall 2 (by decide))
    have h20:ac.eval (.tmp 20)=.agg x.toArray:=hF.done 3 (20,SP.is (.agg x.toArray)) (by rw[hD];rfl) (hall 3 (by decide))
    have h21:ac.eval (.tmp 21)=.slice (some ⟨g2,0,none⟩) n c2:=hF.done 4 (21,SP.is (.slice (some ⟨g2,0,none⟩) n c2)) (by rw[hD];rfl) (hall 4 (by decide))
    have h22:ac.eval (.tmp 22)=.int .i64 (t:Int):=hF.done 5 (22,SP.is (.int .i64 (t:Int))) (by rw[hD];rfl) (hall 5 (by decide))
    have h23:ac.eval (.tmp 23)=.pointer (some ⟨g2,t*30,none⟩):=hF.done 6 (23,SP.is (.pointer (some ⟨g2,t*30,none⟩))) (by rw[hD];rfl) (hall 6 (by decide))
    have h24:ac.eval (.tmp 24)=.agg x.toArray:=hF.done 7 (24,SP.is (.agg x.toArray)) (by rw[hD];rfl) (hall 7 (by decide))
    have h25:ac.eval (.tmp 25)=.bool false:=hF.done 8 (25,SP.is (.bool false)) (by rw[hD];rfl) (hall 8 (by decide))
    have ea:=hF.lay [(17,.slice (some ⟨g1,0,none⟩) n c1),(18,.int .i64 (t:Int)),(19,.pointer (some ⟨g1,t*30,none⟩)),(20,.agg x.toArray),(21,.slice (some ⟨g2,0,none⟩) n c2),(22,.int .i64 (t:Int)),(23,.pointer (some ⟨g2,t*30,none⟩)),(24,.agg x.toArray),(25,.bool false)] (by rw[hD,hsz];rfl) (by simp only[List.forall_mem_cons,List.not_mem_nil,false_implies,implies_true,and_true];exact⟨h17,h18,h19,h20,h21,h22,h23,h24,h25⟩)
    rw[ha0] at ea
    simp only[List.foldl_cons,List.foldl_nil,jA,jB,jC] at ea
    clear hF hall hr hl hD  zs0 zs1 zs5 ha0 hsz h17 h18 h19 h20 h21 h22 h23 h24 h25
    subst ea
    have B2:Hid (Below w.heap.size w W):=HBW.out.trans (hb1.mono HBW.out.size)
    clear hb1
    go_wp2
    exact⟨⟨t+1,hlt,by go_num,B2.out⟩,by simp [intOf];omega⟩
  ·go_wp2
   go_ret
   exact⟨rfl,HBW.out⟩
theorem zmU:∃ ie z,Tryz.prog.info? tYr=some ie/\ie.zero=some z/\ie.size=5/\ie.bytes=40/\z.cells.size=5:=by
 have h:(Tryz.prog.info? tYr).map (fun i=>(i.size,i.bytes,i.zero.map (·.cells.size)))=some (5,40,some 5):=by kernel_rfl
 cases hi:Tryz.prog.info? tYr with
 |none=>rw[hi] at h;cases h
 |some ie=>
  rw[hi] at h
  simp only[Option.map_some,Option.some.injEq,Prod.mk.injEq] at h
  obtain⟨h1,h2,h3⟩:=h
  cases hz:ie.zero with
  |none=>rw[hz] at h3;cases h3
  |some z=>rw[hz] at h3;exact⟨ie,z,rfl,hz,h1,h2,by simpa using h3⟩
theorem zwD (gr nr cr:Nat) (Ai:Option Addr) (ni ci:Nat):Tryz.prog.built tHo [(0,.slice (some ⟨gr,0,none⟩) nr cr),(2,.slice Ai ni ci)]=some [Value.slice (some ⟨gr,0,none⟩) nr cr,.slice none 0 0,.slice Ai ni ci].toArray:=by kernel_rfl
theorem lw_rpl {w:World} {g n c:Nat} {rs:List (Nat × Int)} (hn:n=rs.length) (h:Lw w tYr 5 (.slice (some ⟨g,0,none⟩) n c) n (frs rs)) {hb:Nat} (hg:g<hb):Rpl hb w (.slice (some ⟨g,0,none⟩) n c) rs:=.inr ⟨g,0,c,by rw[hn],hg,Lw.range h⟩
theorem zyM {inn:List (BitVec 8)} (HNX:zcN inn) (pd:List (BitVec 8)) (m:Nat) (hpd:pd.length=m) (c:Ca) (hc:c.Wf) (ags:List Nat) (rs:List (Nat × Int)) (hag:∀ a ∈ ags,a<2 ^ 256) (hrs:∀ p ∈ rs,p.1<2 ^ 256) (Ak Aa Ar Ai:Option Addr) (ck ca cr0 ni ci:Nat) (PL:List Value) (hPL:PL=.slice Ak m ck :: (c.cs (.slice Aa ags.length ca)++[.slice Ar rs.length cr0])) (RV:List Value) (RE:Int) (Q:List (List Value)) (hmr:zkW pd c ags rs=((RV,RE),Q)) (w:World)
 (hk:Sin w 1 Ak m ck (vB pd)) (hkm:m<=maxLen/\m*1<=140737488355328) (ha:Sin w 4 Aa ags.length ca (fw ags)) (ham:ags.length<=maxLen/\ags.length*32<=140737488355328) (hr:Sin w 5 Ar rs.length cr0 (frs rs)) (hrm:rs.length<=maxLen/\rs.length*40<=140737488355328) (hi:Inr w (.slice Ai ni ci) inn) :
 Calls Tryz.prog 6 #[.agg PL.toArray,.slice Ai ni ci] w fun e w'=>∃ A7 c7,e=.returned (.tuple #[.agg RV.toArray,.int .i64 RE,.slice A7 Q.length c7])/\Lw w' tAk 30 (.slice A7 Q.length c7) Q.length Q.flatten/\Below w.heap.size w w':=by
 obtain⟨na,hna⟩:∃ n,n=ags.length:=⟨_,rfl⟩
 obtain⟨nr,hnr⟩:∃ n,n=rs.length:=⟨_,rfl⟩
 rw[<-hna] at ha ham hPL
 rw[<-hnr] at hr hrm hPL
 have HKV0:Hid (Sin w 1 Ak m ck (vB pd)):=hk
 have HKM:Hid (m<=maxLen/\m*1<=140737488355328):=hkm
 have HA0:Hid (Sin w 4 Aa na ca (fw ags)/\na<=maxLen/\na*32<=140737488355328):=⟨ha,ham⟩
 have HR0:Hid (Sin w 5 Ar nr cr0 (frs rs)/\nr<=maxLen/\nr*40<=140737488355328):=⟨hr,hrm⟩
 have HII:Hid (Inr w (.slice Ai ni ci) inn):=hi
 have HCW:Hid c.Wf:=hc
 obtain⟨L,hL⟩:∃ L,L=c.cs (.slice Aa na ca):=⟨_,rfl⟩
 have HL:Hid (L=c.cs (.slice Aa na ca)):=hL
 have HPL:Hid (PL=.slice Ak m ck :: (L++[.slice Ar nr cr0])):=by show _=_;rw[hL];exact hPL
 have HLL:Hid (L.length=48):=by show _=_;rw[hL];exact Ca.len hc _
 have HLI:Hid ((Tryz.prog.info? 30).map (·.size)=some L.length):=by show _=_;rw[HLL.out];exact zdR
 have HLN:Hid (L.length=zC.length):=by show _=_;rw[HLL.out];rfl
 have HLO:Hid (L.toArray.all (·.oneCell')=true):=by show _=_;rw[hL];exact Ca.one _ rfl
 have HNN:Hid (na=ags.length/\nr=rs.length):=⟨hna,hnr⟩
 have hf:=zgL pd c ags rs
 rw[hmr] at hf
 have HRV:Hid (RV.length=5/\RV.toArray.all (·.oneCell')=true):=by
  obtain⟨m0,g0,h0⟩:=hf.2
  have h0':RV=wq m0++[.int .i64 g0]:=h0
  rw[h0']
  exact zgN 0 (.ok (m0,0)) |> fun z=>⟨by rw[List.length_append,zaV];rfl,by
   rw[<-Array.all_toList,List.all_append]
   have:=zbH m0
   rw[<-Array.all_toList] at this
   rw[this]
   rfl⟩
 have HRVF:Hid (∃ a0 a1 a2 a3 a4:Int,RV=[.int .u64 a0,.int .u64 a1,.int .u64 a2,.int .u64 a3,.int .i64 a4]):=by
  obtain⟨m0,g0,h0⟩:=hf.2
  have h0':RV=wq m0++[.int .i64 g0]:=h0
  exact⟨_,_,_,_,g0,by rw[h0',zaQ];rfl⟩
 have HRVI:Hid ((Tryz.prog.info? 35).map (·.size)=some RV.toArray.size):=by show _=_;rw[List.size_toArray,HRV.out.1];exact zaP
 have HRUN0:Hid (∀ (g8 c8 gr cr hb NN8 cN8:Nat),m<=cN8->∀ W,Lw W 27 4 (.slice (some ⟨g8,0,none⟩) na c8) na (fw ags)->W.rangeAt NN8 0 (vB pd)->Hst W hb (.slice (some ⟨gr,0,none⟩) nr cr) (.slice none 0 0) (.slice Ai ni ci) rs [] inn->Calls Tryz.prog 9 #[.slice (some ⟨NN8,0,none⟩) m cN8,.agg (c.cs (.slice (some ⟨g8,0,none⟩) na c8)).toArray,.iface 46 (.pointer (some ⟨hb,0,none⟩))] W fun e w'=>e=.returned (.tuple #[.agg RV.toArray,.int .i64 RE])/\∃ qv',Hst w' hb (.slice (some ⟨gr,0,none⟩) nr cr) qv' (.slice Ai ni ci) rs Q inn/\Gro (·=hb) W w'):=fun g8 c8 gr cr hb NN8 cN8 h8 W la rg hh=>by
  refine run_all HNX pd m hpd (by have:=hkm.1;unfold maxLen at this;omega) c hc ags (some ⟨g8,0,none⟩) c8 NN8 cN8 hb h8 (.slice (some ⟨gr,0,none⟩) nr cr) (.slice Ai ni ci) rs _ (by rw[hna]) hag hrs RV RE Q hmr W (fun _=>.inr ⟨g8,c8,rfl,Lw.range la⟩) rg hh
 clear hk hkm ha ham hr hrm hi hc hL hPL hf hmr hag hrs hpd hna hnr HNX
 go_enter Tryz.func6,Tryz.ntmps6
 go_upto_region 1 with (first
  |(refine zaF 33 rfl (.tmp 0) rfl PL rfl ?_;intro X1 (R1:Hid (Row X1 w.heap.size PL 33)) (B1:Hid (Below w.heap.size w X1)) (S1:Hid (X1.heap.size=w.heap.size+1));simp only[Act.put,jA,jB,jC])
  |(refine zaT rfl rfl ?_;intro X2 (R2:Hid (Row X2 X1.heap.size zR 35)) (B2:Hid (Below X1.heap.size X1 X2)) (S2:Hid (X2.heap.size=X1.heap.size+1));simp only[Act.put,jA,jB,jC]))
 obtain⟨b2,hb2⟩:∃ b,b=w.heap.size:=⟨_,rfl⟩
 obtain⟨b4,hb4⟩:∃ b,b=X1.heap.size:=⟨_,rfl⟩
 have N24:Hid (b4=b2+1):=by show _=_;rw[hb4,hb2];exact S1.out
 have BB:Hid (Below w.heap.size w X2):=B1.out.trans (B2.out.mono B1.out.size)
 have RP:Hid (Row X2 b2 PL 33):=by rw[hb2];exact Row.below R1.out B2.out R1.out.lt
 have RR:Hid (Row X2 b4 zR 35):=by rw[hb4];exact R2.out
 have HB2:Hid (b2=w.heap.size):=hb2
 rw[<-hb2,<-hb4]
 clear hb2 hb4 R1 B1 S1 R2 B2 S2
 have HP0:Hid (PL[0]?=some (.slice Ak m ck)):=by show _=_;rw[HPL.out];rfl
 have HP49:Hid (PL[49]?=some (.slice Ar nr cr0)):=by show _=_;rw[HPL.out,show 49=48+1 by decide,List.getElem?_cons_succ,List.getElem?_append_right (by rw[HLL.out];decide),HLL.out];rfl
 have HPC:Hid (∀ (j:Nat) (v:Value),L[j]?=some v->PL[1+j]?=some v):=fun j v hj=>by
  rw[HPL.out,show 1+j=j+1 by omega,List.getElem?_cons_succ,List.getElem?_append_left (List.getElem?_eq_some_iff.1 hj).1]
  exact hj
 go_upto_region 2 with (first
  |(refine zfQ rfl rfl ?_;intro X3 q1 q2 q3;have RY:Hid (Row X3 X2.heap.size [] tYr):=q1;have B3:Hid (Below w.heap.size w X3):=BB.out.trans (q2.mono BB.out.size);have RP3:Hid (Row X3 b2 PL 33):=Row.below RP.out q2 RP.out.lt;have RR3:Hid (Row X3 b4 zR 35):=Row.below RR.out q2 RR.out.lt;have c49:X3.cell? ⟨b2,49,none⟩=some (.slice Ar nr cr0):=(Row.below RP.out q2 RP.out.lt).cell 49 _ HP49.out;clear q1 q2 q3;simp only[Act.put,jA,jB,jC])
  |(refine zcY tYs tYr 5 40 Tryz.underlying31 zmU (by decide) rfl (.tmp 11) (.tmp 13) rfl X2.heap.size rfl RY.out Ar nr cr0 (frs rs) rfl (HR0.out.1.be B3.out) HR0.out.2.1 HR0.out.2.2 ?_;intro gr cr X3b q1 q2 q3 q4;have LR:Hid (Lw X3b tYr 5 (.slice (some ⟨gr,0,none⟩) nr cr) nr (frs rs)):=q1;have B3b:Hid (Below w.heap.size w X3b):=B3.out.trans (q3.mono B3.out.size);have RP3b:Hid (Row X3b b2 PL 33):=Row.below RP3.out q3 RP3.out.lt;have RR3b:Hid (Row X3b b4 zR 35):=Row.below RR3.out q3 RR3.out.lt;clear q1 q2 q3 q4;simp only[Act.put,jA,jB,jC])
  |(refine zbU rfl tHo _ rfl [(0,.slice (some ⟨gr,0,none⟩) nr cr),(2,.slice Ai ni ci)] rfl _ (zwD gr nr cr Ai ni ci) ?_;simp only[Act.put,jA,jB,jC])
  |(refine zaF tHo rfl (.tmp 16) rfl [.slice (some ⟨gr,0,none⟩) nr cr,.slice none 0 0,.slice Ai ni ci] rfl ?_;intro X4 (RH:Hid (Row X4 X3b.heap.size [.slice (some ⟨gr,0,none⟩) nr cr,.slice none 0 0,.slice Ai ni ci] tHo)) (B4:Hid (Below X3b.heap.size X3b X4)) q3;clear q3;simp only[Act.put,jA,jB,jC]))
 obtain⟨hb,hhb⟩:∃ b,b=X3b.heap.size:=⟨_,rfl⟩
 rw[<-hhb] at RH
 rw[<-hhb]
 have HHB:Hid (w.heap.size<=hb):=by show _<=_;rw[hhb];exact B3b.out.size
 have HGH:Hid (gr<hb):=by show _<_;rw[hhb];exact Lw.lt LR.out gr rfl
 have BB4:Hid (Below w.heap.size w X4):=B3b.out.trans (B4.out.mono B3b.out.size)
 have RP4:Hid (Row X4 b2 PL 33):=Row.below RP3b.out B4.out RP3b.out.lt
 have RR4:Hid (Row X4 b4 zR 35):=Row.below RR3b.out B4.out RR3b.out.lt
 have HS4:Hid (Hst X4 hb (.slice (some ⟨gr,0,none⟩) nr cr) (.slice none 0 0) (.slice Ai ni ci) rs [] inn):=⟨RH.out,lw_rpl HNN.out.2 (Lw.be LR.out B4.out) HGH.out,Lw.nil _ _ _,HII.out.rows (fun b cs r=>Row.below r BB4.out r.lt),fun g e=>by cases e⟩
 have RG4:Hid (X4.rangeAt b2 1 L):=RP4.out.range 1 L (fun j v hj=>HPC.out j v hj)
 clear hhb B3 B3b B4 RY RP3 RR3 RP3b RR3b c49 BB RP RR RH LR
 go_upto_region 3 with (first
  |(refine zaG rfl 30 (.tmp 18) rfl b2 1 rfl L _ RG4.out Tryz.underlying30 rfl HLI.out ?_;simp only[Act.put,jA,jB,jC])
  |(refine zgR rfl rfl ?_;intro X5 (RC5:Hid (Row X5 X4.heap.size zC 30)) (B5:Hid (Below X4.heap.size X4 X5)) q3;clear q3;simp only[Act.put,jA,jB,jC])
  |(refine zaD rfl 30 (.tmp 8) (.tmp 19) rfl X4.heap.size L zC 30 rfl rfl RC5.out HLN.out HLI.out HLO.out ?_;intro X6 (E6:Hid (X6=_)) (RC6:Hid (Row X6 X4.heap.size L 30));simp only[Act.put]))
 obtain⟨b8,hb8⟩:∃ b,b=X4.heap.size:=⟨_,rfl⟩
 have k6:Below X4.heap.size X4 X6:=by rw[E6.out];exact zaC B5.out (Nat.le_refl _) _
 have BB6:Hid (Below w.heap.size w X6):=BB4.out.trans (k6.mono BB4.out.size)
 have RP6:Hid (Row X6 b2 PL 33):=Row.below RP4.out k6 RP4.out.lt
 have RR6:Hid (Row X6 b4 zR 35):=Row.below RR4.out k6 RR4.out.lt
 have HS6:Hid (Hst X6 hb (.slice (some ⟨gr,0,none⟩) nr cr) (.slice none 0 0) (.slice Ai ni ci) rs [] inn):=HS4.out.below k6
 have HB8:Hid (w.heap.size<=b8):=by show _<=_;rw[hb8];exact BB4.out.size
 have HHB8:Hid (hb<b8):=by show _<_;rw[hb8];exact HS4.out.row.lt
 rw[<-hb8] at RC6
 rw[<-hb8]
 have HL45:Hid (45<L.length):=by show _<_;rw[HLL.out];decide
 have HP46:Hid (PL[46]?=some (.slice Aa na ca)):=HPC.out 45 _ (by rw[HL.out];exact Ca.at45 HCW.out _)
 clear hb8 k6 E6 RC5 B5 RG4 BB4 RP4 RR4 HS4
 go_upto_region 4 with (first
  |(refine zeG rfl rfl ?_;intro X7 q1 q2 q3;have RE7:Hid (Row X7 X6.heap.size [] 27):=q1;have B7:Hid (Below X6.heap.size X6 X7):=q2;have c46:X7.cell? ⟨b2,46,none⟩=some (.slice Aa na ca):=(Row.below RP6.out q2 RP6.out.lt).cell 46 _ HP46.out;clear q1 q2 q3;simp only[Act.put,jA,jB,jC])
  |(refine zcY 28 27 4 32 Tryz.underlying28 zbO (by decide) rfl (.tmp 20) (.tmp 23) rfl X6.heap.size rfl RE7.out Aa na ca (fw ags) rfl (HA0.out.1.be (BB6.out.trans (B7.out.mono BB6.out.size))) HA0.out.2.1 HA0.out.2.2 ?_;intro g8 c8 X8 q1 q2 q3 q4;have LA8:Hid (Lw X8 27 4 (.slice (some ⟨g8,0,none⟩) na c8) na (fw ags)):=q1;have B8:Hid (Below X6.heap.size X6 X8):=B7.out.trans (q3.mono B7.out.size);have RC8:Hid (Row X8 b8 L 30):=Row.below RC6.out (B7.out.trans (q3.mono B7.out.size)) RC6.out.lt;clear q1 q2 q3 q4;simp only[Act.put,jA,jB,jC])
  |(refine zbI rfl 28 (.tmp 25) (.tmp 24) rfl b8 45 (.slice (some ⟨g8,0,none⟩) na c8) L 30 rfl rfl rfl RC8.out HL45.out zgU rfl ?_;intro X (RCX:Hid (Row X b8 (L.set 45 (.slice (some ⟨g8,0,none⟩) na c8)) 30)) (GX:Hid (Gro (·=b8) X8 X)) q3;clear q3;simp only[Act.put]))
 obtain⟨M,hM⟩:∃ M,M=c.cs (.slice (some ⟨g8,0,none⟩) na c8):=⟨_,rfl⟩
 have HMI:Hid ((Tryz.prog.info? 30).map (·.size)=some M.length):=by show _=_;rw[hM,Ca.len HCW.out];exact zdR
 have HRUN:Hid (∀ (NN8 cN8:Nat),m<=cN8->∀ W,Lw W 27 4 (.slice (some ⟨g8,0,none⟩) na c8) na (fw ags)->W.rangeAt NN8 0 (vB pd)->Hst W hb (.slice (some ⟨gr,0,none⟩) nr cr) (.slice none 0 0) (.slice Ai ni ci) rs [] inn->Calls Tryz.prog 9 #[.slice (some ⟨NN8,0,none⟩) m cN8,.agg M.toArray,.iface 46 (.pointer (some ⟨hb,0,none⟩))] W fun e w'=>e=.returned (.tuple #[.agg RV.toArray,.int .i64 RE])/\∃ qv',Hst w' hb (.slice (some ⟨gr,0,none⟩) nr cr) qv' (.slice Ai ni ci) rs Q inn/\Gro (·=hb) W w'):=by rw[hM];exact HRUN0.out g8 c8 gr cr hb
 have hLa:Lw X 27 4 (.slice (some ⟨g8,0,none⟩) na c8) na (fw ags):=Lw.gro LA8.out GX.out (Lw.ne LA8.out RC8.out (by decide))
 have rp8:=Row.below RP6.out B8.out RP6.out.lt
 have r48:=Row.below RR6.out B8.out RR6.out.lt
 have rp:Row X b2 PL 33:=GX.out.row rp8 (zaN rp8 RC8.out (by decide))
 have r4:Row X b4 zR 35:=GX.out.row r48 (zaN r48 RC8.out (by decide))
 have rcl:Row X b8 M 30:=by rw[hM,<-Ca.set45 HCW.out (.slice Aa na ca),<-HL.out];exact RCX.out
 have hpre:Hst X hb (.slice (some ⟨gr,0,none⟩) nr cr) (.slice none 0 0) (.slice Ai ni ci) rs [] inn:=(HS6.out.below B8.out).kh ⟨fun bb cs t ht rr=>GX.out.row rr (fun e=>by
  have hne:t≠30:=by rcases ht with h|h|h|h <;> rw[h] <;> decide
  exact zaN rr RC8.out hne e),fun bb h1 h2=>GX.out.block bb h2 (fun e=>by have:=HHB8.out;omega)⟩
 have hb1:Below w.heap.size w X:=(BB6.out.trans (B8.out.mono BB6.out.size)).trans (GX.out.to_below (Nat.le_trans BB6.out.size B8.out.size) (fun k e=>by rw[e];exact HB8.out))
 have HXW:Hid (w.heap.size<=X.heap.size):=hb1.size
 have HKV:Hid (∀ W,Below w.heap.size w W->Sin W 1 Ak m ck (vB pd)):=fun W k=>HKV0.out.be k
 have l2:b2<X.heap.size:=rp.lt
 have l4:b4<X.heap.size:=r4.lt
 have l8:b8<X.heap.size:=rcl.lt
 have lh:hb<X.heap.size:=hpre.row.lt
 have HW4:Hid (w.heap.size<=b4):=by show _<=_;have h1:=N24.out;have h2:=HB2.out;omega
 clear hM RCX GX LA8 B8 RC8 RE7 B7 c46 RP6 RR6 RC6 BB6 HS6 rp8 r48 HRUN0
 refine zeB fun a0 ha0=>?_
 have hsz:a0.tmps.size=43:=by rw[ha0];rfl
 have zs2:a0.eval (.tmp 2)=.pointer (some ⟨b2,0,none⟩):=by rw[ha0];rfl
 have zs7:a0.eval (.tmp 7)=.pointer (some ⟨hb,0,none⟩):=by rw[ha0];rfl
 have zs8:a0.eval (.tmp 8)=.pointer (some ⟨b8,0,none⟩):=by rw[ha0];rfl
 obtain⟨D,hD⟩:∃ D:List (Tmp × SP),D=[(27,SP.any),(28,SP.is (.pointer (some ⟨b2,0,none⟩))),(29,SP.is (.slice Ak m ck)),(30,SP.any),(31,SP.is (.agg M.toArray)),(32,SP.is (.pointer (some ⟨hb,0,none⟩))),(33,SP.is (.iface 46 (.pointer (some ⟨hb,0,none⟩)))),(34,SP.is (.tuple #[.agg RV.toArray,.int .i64 RE])),(26,SP.is (.tuple #[.agg RV.toArray,.int .i64 RE])),(35,SP.is (.agg RV.toArray)),(36,SP.is (.int .i64 RE)),(9,SP.any),(1000,SP.any),(10,SP.is (.int .i64 RE))]:=⟨_,rfl⟩
 refine zbV (by kernel_rfl) (fun listed ac W=>∃ NN:Nat,listed.size=14/\Fp D a0 listed ac W/\Below w.heap.size w W/\X.heap.size<=W.heap.size/\Row W b2 PL 33/\Row W b8 M 30/\Row W b4 zR 35/\Lw W 27 4 (.slice (some ⟨g8,0,none⟩) na c8) na (fw ags)/\(¬ listed.getD 7 false=true->Hst W hb (.slice (some ⟨gr,0,none⟩) nr cr) (.slice none 0 0) (.slice Ai ni ci) rs [] inn)/\(listed.getD 7 false=true->∃ qv',Hst W hb (.slice (some ⟨gr,0,none⟩) nr cr) qv' (.slice Ai ni ci) rs Q inn)/\(listed.getD 11 false=true->ac.eval (.tmp 9)=.pointer (some ⟨NN,0,none⟩)/\X.heap.size<=NN/\Row W NN (if listed.getD 12 false=true then RV else zR) 35)/\(listed.getD 0 false=true->¬ listed.getD 3 false=true->(SP.new 0 0 [] 5).P W (ac.eval (.tmp 27)))/\(listed.getD 3 false=true->¬ listed.getD 7 false=true->(SP.byd m pd).P W (ac.eval (.tmp 30)))) ?_ ?_ ?_
 ·exact⟨0,by simp,Fp.start D a0 _ _,Below.drew hb1,Nat.le_refl _,Row.drew rp,Row.drew rcl,Row.drew r4,Lw.be hLa (Below.drew (Below.refl _ _)),(fun _=>hpre.below (Below.drew (Below.refl _ _))),(fun h=>(zbK h).elim),(fun h=>(zbK h).elim),(fun h _=>(zbK h).elim),(fun h _=>(zbK h).elim)⟩
 ·clear ha0 hb1 rp rcl r4 hLa hpre
  intro listed ac W k hI hdn hk
  obtain⟨NN,hl,hF,hb1,hszW,rp,rcl,r4,hLa,hpre,hpost,hal,ti0,ti3⟩:=hI
  have hk1:k<14:=List.mem_range.1 (List.mem_filter.1 hk).1
  have hl2:∀ j,(listed.setIfInBounds j true).size=14:=fun j=>by rw[Array.size_setIfInBounds];exact hl
  rcases (show k=0\/k=1\/k=2\/k=3\/k=4\/k=5\/k=6\/k=7\/k=8\/k=9\/k=10\/k=11\/k=12\/k=13 by omega) with rfl|rfl|rfl|rfl|rfl|rfl|rfl|rfl|rfl|rfl|rfl|rfl|rfl|rfl
  ·have hk3:=hk
   refine zaE rfl rfl (zgS rfl ?_)
   intro W2 q hB
   exact⟨NN,hl2 0,((hF.world hB).put 0 27 (SP.any) (.slice (some ⟨W.heap.size,0,none⟩) 0 0) (by rw[hD];rfl) trivial (by rw[hD];rfl) (by rw[hsz];decide) (by rw[hl];decide)),hb1.trans (hB.mono hb1.size),Nat.le_trans hszW hB.size,Row.below rp hB (Row.lt rp),Row.below rcl hB (Row.lt rcl),Row.below r4 hB (Row.lt r4),Lw.be hLa hB,(fun h=>(hpre (by rwa [zaA _ _ _ (by decide)] at h)).below hB),(fun h=>by obtain⟨qv9,z9⟩:=hpost (by rwa [zaA _ _ _ (by decide)] at h);exact⟨qv9,z9.below hB⟩),(fun h=>⟨(zaB ac _ (by decide)).trans (hal (by rwa [zaA _ _ _ (by decide)] at h)).1,(hal (by rwa [zaA _ _ _ (by decide)] at h)).2.1,by rw[zaA _ _ _ (by decide)];exact Row.below ((hal (by rwa [zaA _ _ _ (by decide)] at h)).2.2) hB (Row.lt ((hal (by rwa [zaA _ _ _ (by decide)] at h)).2.2))⟩),(fun _ _=>by change (SP.new 0 0 [] 5).P _ ((ac.put (some 27) _).eval (.tmp 27));rw[zaR ac _ (by rw[hF.size,hsz];decide)];exact⟨_,rfl,q⟩),(fun h1 h2=>by change (SP.byd m pd).P _ ((ac.put (some 27) _).eval (.tmp 30));rw[zaB ac _ (by decide)];exact (SP.byd m pd).st _ _ _ hB (ti3 (by rwa [zaA _ _ _ (by decide)] at h1) (by rwa [zaA _ _ _ (by decide)] at h2)))⟩
  ·have hk3:=hk
   have e2:=((hF.keep 2 (by rw[hD];rfl)).trans zs2)
   exact zaE rfl rfl (zpS b2 rfl e2 ⟨NN,hl2 1,(hF.put 1 28 (SP.is (.pointer (some ⟨b2,0,none⟩))) (.pointer (some ⟨b2,0,none⟩)) (by rw[hD];rfl) rfl (by rw[hD];rfl) (by rw[hsz];decide) (by rw[hl];decide)),hb1,hszW,rp,rcl,r4,hLa,(fun h=>hpre (by rwa [zaA _ _ _ (by decide)] at h)),(fun h=>hpost (by rwa [zaA _ _ _ (by decide)] at h)),(fun h=>⟨(zaB ac _ (by decide)).trans (hal (by rwa [zaA _ _ _ (by decide)] at h)).1,(hal (by rwa [zaA _ _ _ (by decide)] at h)).2.1,by rw[zaA _ _ _ (by decide)];exact (hal (by rwa [zaA _ _ _ (by decide)] at h)).2.2⟩),(fun h1 h2=>by change (SP.new 0 0 [] 5).P _ ((ac.put (some 28) _).eval (.tmp 27));rw[zaB ac _ (by decide)];exact ti0 (by rwa [zaA _ _ _ (by decide)] at h1) (by rwa [zaA _ _ _ (by decide)] at h2)),(fun h1 h2=>by change (SP.byd m pd).P _ ((ac.put (some 28) _).eval (.tmp 30));rw[zaB ac _ (by decide)];exact ti3 (by rwa [zaA _ _ _ (by decide)] at h1) (by rwa [zaA _ _ _ (by decide)] at h2))⟩)
  ·have hk3:=hk
   have e28:=(hF.done 1 (28,SP.is (.pointer (some ⟨b2,0,none⟩))) (by rw[hD];rfl) (zaI hk 1 (by kernel_rfl)))
   exact zaE rfl rfl (zhQ rfl b2 0 e28 Ak m ck (rp.cell 0 _ HP0.out) ⟨NN,hl2 2,(hF.put 2 29 (SP.is (.slice Ak m ck)) (.slice Ak m ck) (by rw[hD];rfl) rfl (by rw[hD];rfl) (by rw[hsz];decide) (by rw[hl];decide)),hb1,hszW,rp,rcl,r4,hLa,(fun h=>hpre (by rwa [zaA _ _ _ (by decide)] at h)),(fun h=>hpost (by rwa [zaA _ _ _ (by decide)] at h)),(fun h=>⟨(zaB ac _ (by decide)).trans (hal (by rwa [zaA _ _ _ (by decide)] at h)).1,(hal (by rwa [zaA _ _ _ (by decide)] at h)).2.1,by rw[zaA _ _ _ (by decide)];exact (hal (by rwa [zaA _ _ _ (by decide)] at h)).2.2⟩),(fun h1 h2=>by change (SP.new 0 0 [] 5).P _ ((ac.put (some 29) _).eval (.tmp 27));rw[zaB ac _ (by decide)];exact ti0 (by rwa [zaA _ _ _ (by decide)] at h1) (by rwa [zaA _ _ _ (by decide)] at h2)),(fun h1 h2=>by change (SP.byd m pd).P _ ((ac.put (some 29) _).eval (.tmp 30));rw[zaB ac _ (by decide)];exact ti3 (by rwa [zaA _ _ _ (by decide)] at h1) (by rwa [zaA _ _ _ (by decide)] at h2))⟩)
  ·have hk3:=hk
   obtain⟨N7,e27,r27⟩:=(ti0 (zaI hk 0 (by kernel_rfl)) (zbD hk))
   have e29:=(hF.done 2 (29,SP.is (.slice Ak m ck)) (by rw[hD];rfl) (zaI hk 2 (by kernel_rfl)))
   refine zaE rfl rfl (znV 22 5 1 1 Tryz.underlying22 zeN (by decide) (.tmp 27) (.tmp 29) rfl N7 e27 r27 Ak m ck (vB pd) e29 (HKV.out W hb1) (zvG pd) HKM.out.1 HKM.out.2 ?_)
   intro g9 c9 W2 l9 n9 hB
   exact⟨NN,hl2 3,((hF.world hB).put 3 30 (SP.any) (.slice (some ⟨g9,0,none⟩) m c9) (by rw[hD];rfl) trivial (by rw[hD];rfl) (by rw[hsz];decide) (by rw[hl];decide)),hb1.trans (hB.mono hb1.size),Nat.le_trans hszW hB.size,Row.below rp hB (Row.lt rp),Row.below rcl hB (Row.lt rcl),Row.below r4 hB (Row.lt r4),Lw.be hLa hB,(fun h=>(hpre (by rwa [zaA _ _ _ (by decide)] at h)).below hB),(fun h=>by obtain⟨qv9,z9⟩:=hpost (by rwa [zaA _ _ _ (by decide)] at h);exact⟨qv9,z9.below hB⟩),(fun h=>⟨(zaB ac _ (by decide)).trans (hal (by rwa [zaA _ _ _ (by decide)] at h)).1,(hal (by rwa [zaA _ _ _ (by decide)] at h)).2.1,by rw[zaA _ _ _ (by decide)];exact Row.below ((hal (by rwa [zaA _ _ _ (by decide)] at h)).2.2) hB (Row.lt ((hal (by rwa [zaA _ _ _ (by decide)] at h)).2.2))⟩),(fun _ h=>absurd (zbC (by rw[hl];decide)) h),(fun _ _=>by change (SP.byd m pd).P _ ((ac.put (some 30) _).eval (.tmp 30));rw[zaR ac _ (by rw[hF.size,hsz];decide)];exact⟨g9,c9,rfl,n9,Lw.range l9⟩)⟩
  ·have hk3:=hk
   have e0:=((hF.keep 8 (by rw[hD];rfl)).trans zs8)
   exact zaE rfl rfl (wp_load_mid 30 (.tmp 8) rfl b8 0 e0 M _ rcl.all Tryz.underlying30 rfl HMI.out ⟨NN,hl2 4,(hF.put 4 31 (SP.is (.agg M.toArray)) (.agg M.toArray) (by rw[hD];rfl) rfl (by rw[hD];rfl) (by rw[hsz];decide) (by rw[hl];decide)),hb1,hszW,rp,rcl,r4,hLa,(fun h=>hpre (by rwa [zaA _ _ _ (by decide)] at h)),(fun h=>hpost (by rwa [zaA _ _ _ (by decide)] at h)),(fun h=>⟨(zaB ac _ (by decide)).trans (hal (by rwa [zaA _ _ _ (by decide)] at h)).1,(hal (by rwa [zaA _ _ _ (by decide)] at h)).2.1,by rw[zaA _ _ _ (by decide)];exact (hal (by rwa [zaA _ _ _ (by decide)] at h)).2.2⟩),(fun h1 h2=>by change (SP.new 0 0 [] 5).P _ ((ac.put (some 31) _).eval (.tmp 27));rw[zaB ac _ (by decide)];exact ti0 (by rwa [zaA _ _ _ (by decide)] at h1) (by rwa [zaA _ _ _ (by decide)] at h2)),(fun h1 h2=>by change (SP.byd m pd).P _ ((ac.put (some 31) _).eval (.tmp 30));rw[zaB ac _ (by decide)];exact ti3 (by rwa [zaA _ _ _ (by decide)] at h1) (by rwa [zaA _ _ _ (by decide)] at h2))⟩)
  ·have hk3:=hk
   exact zaE rfl rfl (zbJ (ac.eval (.tmp 7)) rfl rfl ⟨NN,hl2 5,(hF.put 5 32 (SP.is (.pointer (some ⟨hb,0,none⟩))) (ac.eval (.tmp 7)) (by rw[hD];rfl) (((hF.keep 7 (by rw[hD];rfl)).trans zs7)) (by rw[hD];rfl) (by rw[hsz];decide) (by rw[hl];decide)),hb1,hszW,rp,rcl,r4,hLa,(fun h=>hpre (by rwa [zaA _ _ _ (by decide)] at h)),(fun h=>hpost (by rwa [zaA _ _ _ (by decide)] at h)),(fun h=>⟨(zaB ac _ (by decide)).trans (hal (by rwa [zaA _ _ _ (by decide)] at h)).1,(hal (by rwa [zaA _ _ _ (by decide)] at h)).2.1,by rw[zaA _ _ _ (by decide)];exact (hal (by rwa [zaA _ _ _ (by decide)] at h)).2.2⟩),(fun h1 h2=>by change (SP.new 0 0 [] 5).P _ ((ac.put (some 32) _).eval (.tmp 27));rw[zaB ac _ (by decide)];exact ti0 (by rwa [zaA _ _ _ (by decide)] at h1) (by rwa [zaA _ _ _ (by decide)] at h2)),(fun h1 h2=>by change (SP.byd m pd).P _ ((ac.put (some 32) _).eval (.tmp 30));rw[zaB ac _ (by decide)];exact ti3 (by rwa [zaA _ _ _ (by decide)] at h1) (by rwa [zaA _ _ _ (by decide)] at h2))⟩)
  ·have hk3:=hk
   have e32:=(hF.done 5 (32,SP.is (.pointer (some ⟨hb,0,none⟩))) (by rw[hD];rfl) (zaI hk 5 (by kernel_rfl)))
   exact zaE rfl rfl (znW rfl (.pointer (some ⟨hb,0,none⟩)) e32 ⟨NN,hl2 6,(hF.put 6 33 (SP.is (.iface 46 (.pointer (some ⟨hb,0,none⟩)))) (.iface 46 (.pointer (some ⟨hb,0,none⟩))) (by rw[hD];rfl) rfl (by rw[hD];rfl) (by rw[hsz];decide) (by rw[hl];decide)),hb1,hszW,rp,rcl,r4,hLa,(fun h=>hpre (by rwa [zaA _ _ _ (by decide)] at h)),(fun h=>hpost (by rwa [zaA _ _ _ (by decide)] at h)),(fun h=>⟨(zaB ac _ (by decide)).trans (hal (by rwa [zaA _ _ _ (by decide)] at h)).1,(hal (by rwa [zaA _ _ _ (by decide)] at h)).2.1,by rw[zaA _ _ _ (by decide)];exact (hal (by rwa [zaA _ _ _ (by decide)] at h)).2.2⟩),(fun h1 h2=>by change (SP.new 0 0 [] 5).P _ ((ac.put (some 33) _).eval (.tmp 27));rw[zaB ac _ (by decide)];exact ti0 (by rwa [zaA _ _ _ (by decide)] at h1) (by rwa [zaA _ _ _ (by decide)] at h2)),(fun h1 h2=>by change (SP.byd m pd).P _ ((ac.put (some 33) _).eval (.tmp 30));rw[zaB ac _ (by decide)];exact ti3 (by rwa [zaA _ _ _ (by decide)] at h1) (by rwa [zaA _ _ _ (by decide)] at h2))⟩)
  ·have hk3:=hk
   obtain⟨NN8,cN8,e30,h8,r30⟩:=(ti3 (zaI hk 3 (by kernel_rfl)) (zbD hk))
   have e31:=(hF.done 4 (31,SP.is (.agg M.toArray)) (by rw[hD];rfl) (zaI hk 4 (by kernel_rfl)))
   have e33:=(hF.done 6 (33,SP.is (.iface 46 (.pointer (some ⟨hb,0,none⟩)))) (by rw[hD];rfl) (zaI hk 6 (by kernel_rfl)))
   have hp0:=hpre (zbD hk)
   refine zaE rfl rfl (zfM 9 #[.slice (some ⟨NN8,0,none⟩) m cN8,.agg M.toArray,.iface 46 (.pointer (some ⟨hb,0,none⟩))] rfl rfl (by show [ac.eval (.tmp 30),ac.eval (.tmp 31),ac.eval (.tmp 33)]=_;rw[show ac.eval (.tmp 30)=_ from e30,show ac.eval (.tmp 31)=_ from e31,show ac.eval (.tmp 33)=_ from e33]) (by go_simp) ((HRUN.out NN8 cN8 h8 W hLa r30 hp0).mono ?_))
   rintro e W2 ⟨rfl,qv9,z9,hG⟩
   have hT:Fp D a0 listed ac W2:=hF.turn (by rw[hD];simp only[List.forall_mem_cons,List.not_mem_nil,false_implies,implies_true,and_true];exact⟨fun _ h=>h,fun _ h=>h,fun _ h=>h,fun _ h=>h,fun _ h=>h,fun _ h=>h,fun _ h=>h,fun _ h=>h,fun _ h=>h,fun _ h=>h,fun _ h=>h,fun _ h=>h,fun _ h=>h,fun _ h=>h⟩)
   exact⟨_,rfl,NN,hl2 7,(hT.put 7 34 (SP.is (.tuple #[.agg RV.toArray,.int .i64 RE])) (.tuple #[.agg RV.toArray,.int .i64 RE]) (by rw[hD];rfl) rfl (by rw[hD];rfl) (by rw[hsz];decide) (by rw[hl];decide)),hb1.trans (hG.to_below hb1.size (fun k e=>by rw[e];exact HHB.out)),Nat.le_trans hszW hG.size,hG.row rp (zaN rp hp0.row (by decide)),hG.row rcl (zaN rcl hp0.row (by decide)),hG.row r4 (zaN r4 hp0.row (by decide)),Lw.gro hLa hG (Lw.ne hLa hp0.row (by decide)),(fun h=>absurd (zbC (by rw[hl];decide)) h),(fun _=>⟨qv9,z9⟩),(fun h=>⟨(zaB ac _ (by decide)).trans (hal (by rwa [zaA _ _ _ (by decide)] at h)).1,(hal (by rwa [zaA _ _ _ (by decide)] at h)).2.1,by rw[zaA _ _ _ (by decide)];exact hG.row ((hal (by rwa [zaA _ _ _ (by decide)] at h)).2.2) (zaN ((hal (by rwa [zaA _ _ _ (by decide)] at h)).2.2) hp0.row (by decide))⟩),(fun _ h2=>absurd (by rw[zaA _ _ _ (by decide)];exact zaI hk 3 (by kernel_rfl)) h2),(fun _ h=>absurd (zbC (by rw[hl];decide)) h)⟩
  ·have hk3:=hk
   exact zaE rfl rfl (zbJ (ac.eval (.tmp 34)) rfl rfl ⟨NN,hl2 8,(hF.put 8 26 (SP.is (.tuple #[.agg RV.toArray,.int .i64 RE])) (ac.eval (.tmp 34)) (by rw[hD];rfl) ((hF.done 7 (34,SP.is (.tuple #[.agg RV.toArray,.int .i64 RE])) (by rw[hD];rfl) (zaI hk 7 (by kernel_rfl)))) (by rw[hD];rfl) (by rw[hsz];decide) (by rw[hl];decide)),hb1,hszW,rp,rcl,r4,hLa,(fun h=>hpre (by rwa [zaA _ _ _ (by decide)] at h)),(fun h=>hpost (by rwa [zaA _ _ _ (by decide)] at h)),(fun h=>⟨(zaB ac _ (by decide)).trans (hal (by rwa [zaA _ _ _ (by decide)] at h)).1,(hal (by rwa [zaA _ _ _ (by decide)] at h)).2.1,by rw[zaA _ _ _ (by decide)];exact (hal (by rwa [zaA _ _ _ (by decide)] at h)).2.2⟩),(fun h1 h2=>by change (SP.new 0 0 [] 5).P _ ((ac.put (some 26) _).eval (.tmp 27));rw[zaB ac _ (by decide)];exact ti0 (by rwa [zaA _ _ _ (by decide)] at h1) (by rwa [zaA _ _ _ (by decide)] at h2)),(fun h1 h2=>by change (SP.byd m pd).P _ ((ac.put (some 26) _).eval (.tmp 30));rw[zaB ac _ (by decide)];exact ti3 (by rwa [zaA _ _ _ (by decide)] at h1) (by rwa [zaA _ _ _ (by decide)] at h2))⟩)
  ·have hk3:=hk
   exact zaE rfl rfl (zbZ (.tmp 26) 0 rfl _ (hF.done 8 (26,SP.is (.tuple #[.agg RV.toArray,.int .i64 RE])) (by rw[hD];rfl) (zaI hk 8 (by kernel_rfl))) _ rfl ⟨NN,hl2 9,(hF.put 9 35 (SP.is (.agg RV.toArray)) (_) (by rw[hD];rfl) rfl (by rw[hD];rfl) (by rw[hsz];decide) (by rw[hl];decide)),hb1,hszW,rp,rcl,r4,hLa,(fun h=>hpre (by rwa [zaA _ _ _ (by decide)] at h)),(fun h=>hpost (by rwa [zaA _ _ _ (by decide)] at h)),(fun h=>⟨(zaB ac _ (by decide)).trans (hal (by rwa [zaA _ _ _ (by decide)] at h)).1,(hal (by rwa [zaA _ _ _ (by decide)] at h)).2.1,by rw[zaA _ _ _ (by decide)];exact (hal (by rwa [zaA _ _ _ (by decide)] at h)).2.2⟩),(fun h1 h2=>by change (SP.new 0 0 [] 5).P _ ((ac.put (some 35) _).eval (.tmp 27));rw[zaB ac _ (by decide)];exact ti0 (by rwa [zaA _ _ _ (by decide)] at h1) (by rwa [zaA _ _ _ (by decide)] at h2)),(fun h1 h2=>by change (SP.byd m pd).P _ ((ac.put (some 35) _).eval (.tmp 30));rw[zaB ac _ (by decide)];exact ti3 (by rwa [zaA _ _ _ (by decide)] at h1) (by rwa [zaA _ _ _ (by decide)] at h2))⟩)
  ·have hk3:=hk
   exact zaE rfl rfl (zbZ (.tmp 26) 1 rfl _ (hF.done 8 (26,SP.is (.tuple #[.agg RV.toArray,.int .i64 RE])) (by rw[hD];rfl) (zaI hk 8 (by kernel_rfl))) _ rfl ⟨NN,hl2 10,(hF.put 10 36 (SP.is (.int .i64 RE)) (_) (by rw[hD];rfl) rfl (by rw[hD];rfl) (by rw[hsz];decide) (by rw[hl];decide)),hb1,hszW,rp,rcl,r4,hLa,(fun h=>hpre (by rwa [zaA _ _ _ (by decide)] at h)),(fun h=>hpost (by rwa [zaA _ _ _ (by decide)] at h)),(fun h=>⟨(zaB ac _ (by decide)).trans (hal (by rwa [zaA _ _ _ (by decide)] at h)).1,(hal (by rwa [zaA _ _ _ (by decide)] at h)).2.1,by rw[zaA _ _ _ (by decide)];exact (hal (by rwa [zaA _ _ _ (by decide)] at h)).2.2⟩),(fun h1 h2=>by change (SP.new 0 0 [] 5).P _ ((ac.put (some 36) _).eval (.tmp 27));rw[zaB ac _ (by decide)];exact ti0 (by rwa [zaA _ _ _ (by decide)] at h1) (by rwa [zaA _ _ _ (by decide)] at h2)),(fun h1 h2=>by change (SP.byd m pd).P _ ((ac.put (some 36) _).eval (.tmp 30));rw[zaB ac _ (by decide)];exact ti3 (by rwa [zaA _ _ _ (by decide)] at h1) (by rwa [zaA _ _ _ (by decide)] at h2))⟩)
  ·have hk3:=hk
   have hB:Below W.heap.size W (W.alloc (Obj.cells zR.toArray 35)):=(Below.refl _ _).alloc (Nat.le_refl _) _
   have hns:¬ listed.getD 12 false=true:=fun h=>zbD hk (hdn 12 h 11 (by kernel_rfl))
   exact zaE rfl rfl (zfL rfl ⟨W.heap.size,hl2 11,((hF.world hB).put 11 9 (SP.any) (.pointer (some ⟨W.heap.size,0,none⟩)) (by rw[hD];rfl) trivial (by rw[hD];rfl) (by rw[hsz];decide) (by rw[hl];decide)),hb1.trans (hB.mono hb1.size),Nat.le_trans hszW hB.size,Row.below rp hB (Row.lt rp),Row.below rcl hB (Row.lt rcl),Row.below r4 hB (Row.lt r4),Lw.be hLa hB,(fun h=>(hpre (by rwa [zaA _ _ _ (by decide)] at h)).below hB),(fun h=>by obtain⟨qv9,z9⟩:=hpost (by rwa [zaA _ _ _ (by decide)] at h);exact⟨qv9,z9.below hB⟩),(fun _=>⟨zaR ac _ (by rw[hF.size,hsz];decide),hszW,by rw[zaA _ _ _ (by decide),if_neg hns];exact Row.new' rfl rfl⟩),(fun h1 h2=>by change (SP.new 0 0 [] 5).P _ ((ac.put (some 9) _).eval (.tmp 27));rw[zaB ac _ (by decide)];exact (SP.new 0 0 [] 5).st _ _ _ hB (ti0 (by rwa [zaA _ _ _ (by decide)] at h1) (by rwa [zaA _ _ _ (by decide)] at h2))),(fun h1 h2=>by change (SP.byd m pd).P _ ((ac.put (some 9) _).eval (.tmp 30));rw[zaB ac _ (by decide)];exact (SP.byd m pd).st _ _ _ hB (ti3 (by rwa [zaA _ _ _ (by decide)] at h1) (by rwa [zaA _ _ _ (by decide)] at h2)))⟩)
  ·have hk3:=hk
   have hal0:=hal (zaI hk 11 (by kernel_rfl))
   obtain⟨e1,m1,y2⟩:=hal0
   rw[if_neg (zbD hk)] at y2
   have T:=y2.there 0 RV.toArray.size (by simpa using Nat.le_of_eq HRV.out.1)
   have fin:=y2.over (vs:=RV) HRV.out.1
   have hcd:=hdn 8 (hdn 9 (zaI hk 9 (by kernel_rfl)) 8 (by kernel_rfl)) 7 (by kernel_rfl)
   have hG:Gro (·=NN) W (W.setCells NN 0 RV):=zbB NN _ 0 W W (Gro.refl _ W)
   have hT:Fp D a0 listed ac (W.setCells NN 0 RV):=hF.turn (by rw[hD];simp only[List.forall_mem_cons,List.not_mem_nil,false_implies,implies_true,and_true];exact⟨fun _ h=>h,fun _ h=>h,fun _ h=>h,fun _ h=>h,fun _ h=>h,fun _ h=>h,fun _ h=>h,fun _ h=>h,fun _ h=>h,fun _ h=>h,fun _ h=>h,fun _ h=>h,fun _ h=>h,fun _ h=>h⟩)
   have hnX:w.heap.size<=X.heap.size:=HXW.out
   exact zaE rfl rfl (wp_store_mid 35 (.tmp 9) (.tmp 35) rfl NN 0 RV.toArray e1 (hF.done 9 (35,SP.is (.agg RV.toArray)) (by rw[hD];rfl) (zaI hk 9 (by kernel_rfl))) T HRVI.out HRV.out.2 ⟨NN,hl2 12,(hT.skip 12 1000 (by rw[hD];rfl) (by rw[hl];decide)),zaC hb1 (by omega) _,(by rw[zdJ];exact hszW),hG.row rp (by omega),hG.row rcl (by omega),hG.row r4 (by omega),Lw.gro hLa hG (Lw.ne hLa y2 (by decide)),(fun h=>absurd (by rw[zaA _ _ _ (by decide)];exact hcd) h),(fun h=>by obtain⟨qv9,z9⟩:=hpost hcd;exact⟨qv9,z9.kh (kh_nn hG y2 (by omega))⟩),(fun _=>⟨e1,m1,by rw[if_pos (zbC (by rw[hl];decide))];exact fin⟩),(fun _ h2=>absurd (by rw[zaA _ _ _ (by decide)];exact hdn 7 hcd 3 (by kernel_rfl)) h2),(fun _ h2=>absurd (by rw[zaA _ _ _ (by decide)];exact hcd) h2)⟩)
  ·have hk3:=hk
   exact zaE rfl rfl (zeT (ac.eval (.tmp 36)) rfl rfl ⟨NN,hl2 13,(hF.put 13 10 (SP.is (.int .i64 RE)) (ac.eval (.tmp 36)) (by rw[hD];rfl) ((hF.done 10 (36,SP.is (.int .i64 RE)) (by rw[hD];rfl) (zaI hk 10 (by kernel_rfl)))) (by rw[hD];rfl) (by rw[hsz];decide) (by rw[hl];decide)),hb1,hszW,rp,rcl,r4,hLa,(fun h=>hpre (by rwa [zaA _ _ _ (by decide)] at h)),(fun h=>hpost (by rwa [zaA _ _ _ (by decide)] at h)),(fun h=>⟨(zaB ac _ (by decide)).trans (hal (by rwa [zaA _ _ _ (by decide)] at h)).1,(hal (by rwa [zaA _ _ _ (by decide)] at h)).2.1,by rw[zaA _ _ _ (by decide)];exact (hal (by rwa [zaA _ _ _ (by decide)] at h)).2.2⟩),(fun h1 h2=>by change (SP.new 0 0 [] 5).P _ ((ac.put (some 10) _).eval (.tmp 27));rw[zaB ac _ (by decide)];exact ti0 (by rwa [zaA _ _ _ (by decide)] at h1) (by rwa [zaA _ _ _ (by decide)] at h2)),(fun h1 h2=>by change (SP.byd m pd).P _ ((ac.put (some 10) _).eval (.tmp 30));rw[zaB ac _ (by decide)];exact ti3 (by rwa [zaA _ _ _ (by decide)] at h1) (by rwa [zaA _ _ _ (by decide)] at h2))⟩)
 ·clear hb1 rp rcl r4 hLa hpre
  intro listed ac W hI hr
  obtain⟨NN,hl,hF,hb1,hszW,rp,rcl,r4,hLa,hpre,hpost,hal,ti0,ti3⟩:=hI
  have hall:=zcL (by kernel_rfl) hl hr
  replace hpost:=hpost (hall 7 (by decide))
  obtain⟨ea9,mN,rN⟩:=hal (hall 11 (by decide))
  rw[if_pos (hall 12 (by decide))] at rN
  obtain⟨x27,h27⟩:∃ x,ac.eval (.tmp 27)=x:=⟨_,rfl⟩
  have h28:ac.eval (.tmp 28)=.pointer (some ⟨b2,0,none⟩):=hF.done 1 (28,SP.is (.pointer (some ⟨b2,0,none⟩))) (by rw[hD];rfl) (hall 1 (by decide))
  have h29:ac.eval (.tmp 29)=.slice Ak m ck:=hF.done 2 (29,SP.is (.slice Ak m ck)) (by rw[hD];rfl) (hall 2 (by decide))
  obtain⟨x30,h30⟩:∃ x,ac.eval (.tmp 30)=x:=⟨_,rfl⟩
  have h31:ac.eval (.tmp 31)=.agg M.toArray:=hF.done 4 (31,SP.is (.agg M.toArray)) (by rw[hD];rfl) (hall 4 (by decide))
  have h32:ac.eval (.tmp 32)=.pointer (some ⟨hb,0,none⟩):=hF.done 5 (32,SP.is (.pointer (some ⟨hb,0,none⟩))) (by rw[hD];rfl) (hall 5 (by decide))
  have h33:ac.eval (.tmp 33)=.iface 46 (.pointer (some ⟨hb,0,none⟩)):=hF.done 6 (33,SP.is (.iface 46 (.pointer (some ⟨hb,0,none⟩)))) (by rw[hD];rfl) (hall 6 (by decide))
  have h34:ac.eval (.tmp 34)=.tuple #[.agg RV.toArray,.int .i64 RE]:=hF.done 7 (34,SP.is (.tuple #[.agg RV.toArray,.int .i64 RE])) (by rw[hD];rfl) (hall 7 (by decide))
  have h26:ac.eval (.tmp 26)=.tuple #[.agg RV.toArray,.int .i64 RE]:=hF.done 8 (26,SP.is (.tuple #[.agg RV.toArray,.int .i64 RE])) (by rw[hD];rfl) (hall 8 (by decide))
  have h35:ac.eval (.tmp 35)=.agg RV.toArray:=hF.done 9 (35,SP.is (.agg RV.toArray)) (by rw[hD];rfl) (hall 9 (by decide))
  have h36:ac.eval (.tmp 36)=.int .i64 RE:=hF.done 10 (36,SP.is (.int .i64 RE)) (by rw[hD];rfl) (hall 10 (by decide))
  have h10:ac.eval (.tmp 10)=.int .i64 RE:=hF.done 13 (10,SP.is (.int .i64 RE)) (by rw[hD];rfl) (hall 13 (by decide))
  have ea:=hF.lay [(27,x27),(28,.pointer (some ⟨b2,0,none⟩)),(29,.slice Ak m ck),(30,x30),(31,.agg M.toArray),(32,.pointer (some ⟨hb,0,none⟩)),(33,.iface 46 (.pointer (some ⟨hb,0,none⟩))),(34,.tuple #[.agg RV.toArray,.int .i64 RE]),(26,.tuple #[.agg RV.toArray,.int .i64 RE]),(35,.agg RV.toArray),(36,.int .i64 RE),(9,.pointer (some ⟨NN,0,none⟩)),(10,.int .i64 RE)] (by rw[hD,hsz];rfl) (by simp only[List.forall_mem_cons,List.not_mem_nil,false_implies,implies_true,and_true];exact⟨h27,h28,h29,h30,h31,h32,h33,h34,h26,h35,h36,ea9,h10⟩)
  rw[ha0] at ea
  simp only[List.foldl_cons,List.foldl_nil,jA,jB,jC] at ea
  clear hF hall hr hl hD hpre hal ti0 ti3 zs2 zs7 zs8 ha0 hsz h27 h28 h29 h30 h31 h32 h33 h34 h26 h35 h36 ea9 h10
  subst ea
  obtain⟨qv9,hh9⟩:=hpost
  obtain⟨A7,c7,hq7,_,_⟩:=Lw.form hh9.own
  subst hq7
  have hc:=hh9.row.cell 1 _ rfl
  have HFO:Hid (Lw W tAk 30 (.slice A7 Q.length c7) Q.length Q.flatten):=hh9.own
  have BW:Hid (Below w.heap.size w W):=hb1
  have R4:Hid (Row W b4 zR 35):=r4
  obtain⟨n7,hn7⟩:∃ n,n=Q.length:=⟨_,rfl⟩
  rw[<-hn7] at hc HFO
  have HN7:Hid (n7=Q.length):=hn7
  obtain⟨a0,a1,a2,a3,a4,hRV⟩:=HRVF.out
  have HRVE:Hid (RV=[.int .u64 a0,.int .u64 a1,.int .u64 a2,.int .u64 a3,.int .i64 a4]):=hRV
  rw[hRV] at rN
  have u0:=rN.cell 0 _ rfl
  have v0:=r4.cell 0 _ rfl
  have vf0:=r4.thaw 0
  have u1:=rN.cell 1 _ rfl
  have v1:=r4.cell 1 _ rfl
  have vf1:=r4.thaw 1
  have u2:=rN.cell 2 _ rfl
  have v2:=r4.cell 2 _ rfl
  have vf2:=r4.thaw 2
  have u3:=rN.cell 3 _ rfl
  have v3:=r4.cell 3 _ rfl
  have vf3:=r4.thaw 3
  have u4:=rN.cell 4 _ rfl
  have v4:=r4.cell 4 _ rfl
  have vf4:=r4.thaw 4
  have nb:b4≠NN:=by omega
  have nb':NN≠b4:=by omega
  have nh:hb≠b4:=fun e=>zaN r4 hh9.row (by decide) e.symm
  have nh':b4≠hb:=fun e=>nh e.symm
  clear hn7 hRV rN r4 hb1 rp rcl mN hh9 hszW l2 l4 l8 lh hLa
  go_wp2_with fail
  go_region
  all_goals
   have RF:=((((R4.out.set 0 (.int .u64 a0)).set 1 (.int .u64 a1)).set 2 (.int .u64 a2)).set 3 (.int .u64 a3)).set 4 (.int .i64 a4)
   have GF:Gro (·=b4) W _:=(((((Gro.refl (·=b4) W).set b4 0 (.int .u64 a0) rfl).set b4 1 (.int .u64 a1) rfl).set b4 2 (.int .u64 a2) rfl).set b4 3 (.int .u64 a3) rfl).set b4 4 (.int .i64 a4) rfl
   have GFD:=zjW GF
   have RFD:=RF.drew
   have BF:=BW.out.trans (GFD.to_below BW.out.size (fun k e=>by rw[e];exact HW4.out))
   have LF:=Lw.gro HFO.out GFD (Lw.ne HFO.out R4.out (by decide))
   go_wp2_with fail
   refine bodyPost_ret (zcE Tryz.results6 _ _ b4 35 [.int .u64 a0,.int .u64 a1,.int .u64 a2,.int .u64 a3,.int .i64 a4] (.int .i64 RE) (.slice A7 n7 c7) rfl rfl rfl RFD Tryz.underlying35 zaP) rfl ?_
   exact⟨A7,c7,by rw[HRVE.out,<-HN7.out],by rw[<-HN7.out];exact LF,BF⟩
end Go.Proofs.YtedeobikfddmgaaGreat
namespace Go.Proofs.YtedeobikfddmgaaGreat
open Go Go.RowKit
open Sha
open Wd
theorem ev2_len (cl:Cl) (ags:List Nat) (ls:List Ins) (rs:List (Nat × Int)) (hls:∀ y ∈ ls,y.c<28):∀ (f:Nat) (st:List Nat) (l nx nq:Nat),(ev2 cl ags ls rs f st l nx nq).2.length*200<=l:=by
 intro f
 induction f with
 |zero=>exact fun st l nx nq=>by rw[show (ev2 cl ags ls rs 0 st l nx nq).2=[] from rfl];simp
 |succ f ih=>
  intro st l nx nq
  unfold ev2
  cases hx:ls[nx]? with
  |none=>simp
  |some x=>
   simp only
   have hc:=hls x (List.mem_of_getElem? hx)
   have h1:=zuP (cl:=cl) (ags:=ags) (ls:=ls) (rs:=rs) (x:=x) (st:=st) (l:=l) (nx:=nx) (nq:=nq)
   have h2:(stU cl ags ls rs x st l nx nq).2 ≠ []->200<=gT x.c/\gT x.c<=l:=fun h=>zuN hc h
   have h3:∀ y,(stU cl ags ls rs x st l nx nq).1=.ok y->gT x.c<=l:=fun y h=>zuO h
   rcases hst:stU cl ags ls rs x st l nx nq with ⟨r1,q⟩
   rw[hst] at h1 h2 h3
   simp only at h1 h2 h3
   have hq:q.length*200<=l/\(q ≠ []->q.length=1):=by
    rcases h1 with h1|⟨a,h1,_⟩
    ·rw[h1];exact⟨by simp,fun h=>absurd rfl h⟩
    ·have:=h2 (by rw[h1];simp)
     rw[h1]
     exact⟨by rw[List.length_singleton];omega,fun _=>rfl⟩
   cases r1 with
   |error E=>exact hq.1
   |ok y=>
    obtain⟨st',nx'⟩:=y
    simp only
    split
    ·exact hq.1
    ·have hi:=ih st' (l-gT x.c) nx' (nq+q.length)
     have hg:=h3 _ rfl
     simp only[List.length_append]
     by_cases hqe:q=[]
     ·rw[hqe] at hi ⊢
      simp only[List.length_nil] at hi ⊢
      omega
     ·have:=h2 hqe
      have:=hq.2 hqe
      omega
theorem zyR (pd:List (BitVec 8)) (c:Ca) (ags:List Nat) (rs:List (Nat × Int)):(zkW pd c ags rs).2.length<=50:=by
 unfold zkW
 cases hck:chk pd with
 |none=>simp
 |some ls=>
  simp only
  split
  ·have:=ev2_len c.cl ags ls rs (fun y hy=>((zlB hck).2.2.1 y hy).1) 10001 [] c.gas.toNat 0 0
   simp only
   omega
  ·simp
end Go.Proofs.YtedeobikfddmgaaGreat
namespace Go.Proofs.YtedeobikfddmgaaGreat
open Go Go.RowKit
open Sha
open Wd
section
variable {ops:Array Oper} {rest:List Oper} {op:Oper} {a:Act} {w:World} {Q:Exit->Act->World->Prop}
end
def slN (v:Value):Nat:=match v with | .slice _ n _=>n|_=>0
theorem lw_qin {w:World} {A:Option Addr} {c:Nat} {Q:List (List Value)} (h:Lw w tAk 30 (.slice A Q.length c) Q.length Q.flatten):Qin w A Q:=by
 by_cases hq:Q=[]
 ·exact .inl hq
 ·have hpos:0<Q.length:=by cases Q with|nil=>exact absurd rfl hq|cons _ _=>simp
  obtain⟨g,cap,e,_⟩:=Lw.open h hpos
  simp only[Value.slice.injEq] at e
  obtain⟨rfl,_,rfl⟩:=e
  exact .inr ⟨g,rfl,Lw.range h⟩
theorem ztI {w:World} {A:Option Addr} {n c:Nat} {Q:List (List Value)} (hn:n=Q.length) (h:Lw w tAk 30 (.slice A n c) n Q.flatten):Qin w A Q:=by
 subst hn
 exact lw_qin h
section
variable {ops:Array Oper} {rest:List Oper} {op:Oper} {a:Act} {w:World} {Q:Exit->Act->World->Prop}
theorem zmH (hw:Region.wanted op (yielded ops a.tmps)=true) (x y:Operand) (yt:TypeId) (ho:op.op=.binOp .eql 35 x y yt) (L:List Value) (m:Nat) (g:Int) (hL:L=wq m++[.int .i64 g]) (hx:a.eval x=.agg L.toArray) (hy:a.eval y=.agg L.toArray) (h:wpList Tryz.prog ops Q rest (a.put op.dst (.bool true)) w):wpList Tryz.prog ops Q (op :: rest) a w:=
 BigFrame.wpList_want hw fun _ hK=>by
  have hr:(binOp .eql 35 (.agg L.toArray) (.agg L.toArray)).run Tryz.prog w=.ok (.bool true) w:=by rw[run_eql_struct,selfRn w 9996 m g L hL];rfl
  unfold Oper.wp execOp
  simp only[ho,hx,hy,Sem.run_bind,run_eqGuard_agg w .eql 35 x y _ _ guardRn,Result.andThen_ok,hr,Sem.run_pure,Oper.upon_value]
  exact hK _ _ h
theorem ziU (hw:Region.wanted op (yielded ops a.tmps)=true) (x:Operand) (ho:op.op=.load 35 x) (b:Nat) (hx:a.eval x=.pointer (some ⟨b,0,none⟩)) (L:List Value) (hL:L.length=5) (r:Row w b L 35) (h:wpList Tryz.prog ops Q rest (a.put op.dst (.agg L.toArray)) w):wpList Tryz.prog ops Q (op :: rest) a w:=
 BigFrame.wpList_want hw fun _ hK=>wp_load_mid 35 x ho b 0 hx L _ r.all Tryz.underlying35 rfl (by rw[hL];exact zaP) (hK _ _ h)
end
theorem zuF (pd:List (BitVec 8)) (m:Nat) (hpd:pd.length=m) (c:Ca) (hc:c.Wf) (ags:List Nat) (rs:List (Nat × Int)) (hag:∀ a ∈ ags,a<2 ^ 256) (hrs:∀ p ∈ rs,p.1<2 ^ 256) (Ak Aa Ar:Option Addr) (ck ca cr0:Nat) (PL:List Value) (hPL:PL=.slice Ak m ck :: (c.cs (.slice Aa ags.length ca)++[.slice Ar rs.length cr0])) (w:World)
 (hk:Sin w 1 Ak m ck (vB pd)) (hkm:m<=maxLen/\m*1<=140737488355328) (ha:Sin w 4 Aa ags.length ca (fw ags)) (ham:ags.length<=maxLen/\ags.length*32<=140737488355328) (hr:Sin w 5 Ar rs.length cr0 (frs rs)) (hrm:rs.length<=maxLen/\rs.length*40<=140737488355328) :
 Calls Tryz.prog 3 #[.agg PL.toArray] w fun e w'=>e=.returned (.bool true)/\Below w.heap.size w w':=by
 obtain⟨RV,RE,Q,hmr⟩:∃ RV RE Q,zkW pd c ags rs=((RV,RE),Q):=⟨_,_,_,rfl⟩
 have hQl:=zyR pd c ags rs
 have hQa:=zgL pd c ags rs
 rw[hmr] at hQl hQa
 have HQA:Hid (∀ q ∈ Q,Ask1 q):=hQa.1
 obtain⟨m0,g0,h0⟩:=hQa.2
 have HRF:Hid (RV=wq m0++[.int .i64 g0]):=h0
 have HRV:Hid (RV.length=5/\RV.toArray.all (·.oneCell')=true):=by
  rw[HRF.out]
  exact⟨by rw[List.length_append,zaV];rfl,by
   rw[<-Array.all_toList,List.all_append]
   have:=zbH m0
   rw[<-Array.all_toList] at this
   rw[this]
   rfl⟩
 have HRVI:Hid ((Tryz.prog.info? 35).map (·.size)=some RV.length):=by show _=_;rw[HRV.out.1];exact zaP
 have HPLL:Hid (PL.length=50):=by show _=_;rw[hPL,List.length_cons,List.length_append,Ca.len hc];rfl
 have HPLI:Hid ((Tryz.prog.info? 33).map (·.size)=some PL.length):=by show _=_;rw[HPLL.out];kernel_rfl
 obtain⟨n7,hn7⟩:∃ n,n=Q.length:=⟨_,rfl⟩
 obtain⟨nr,hnr⟩:∃ n,n=rs.length:=⟨_,rfl⟩
 obtain⟨L,hL⟩:∃ L,L=c.cs (.slice Aa ags.length ca):=⟨_,rfl⟩
 have HLL:Hid (L.length=48):=by show _=_;rw[hL];exact Ca.len hc _
 have HLI:Hid ((Tryz.prog.info? 30).map (·.size)=some L.length):=by show _=_;rw[HLL.out];exact zdR
 have HC1:Hid (∀ W,Below w.heap.size w W->Calls Tryz.prog 6 #[.agg PL.toArray,.slice none 0 0] W fun e w'=>∃ A7 c7,e=.returned (.tuple #[.agg RV.toArray,.int .i64 RE,.slice A7 n7 c7])/\Lw w' tAk 30 (.slice A7 n7 c7) n7 Q.flatten/\Below W.heap.size W w'):=fun W kk=>by
  rw[hn7]
  exact zyM zjK pd m hpd c hc ags rs hag hrs Ak Aa Ar none ck ca cr0 0 0 PL hPL RV RE Q hmr W (hk.be kk) hkm (ha.be kk) ham (hr.be kk) hrm (.inl ⟨rfl,none,0,rfl⟩)
 have HC0:Hid (∀ W,Below w.heap.size w W->Calls Tryz.prog 5 #[.slice Ak m ck,.agg L.toArray,.slice Ar nr cr0] W fun e w'=>∃ A7 c7,e=.returned (.tuple #[.agg RV.toArray,.int .i64 RE,.slice A7 n7 c7])/\Lw w' tAk 30 (.slice A7 n7 c7) n7 Q.flatten/\Below W.heap.size W w'):=fun W kk=>by
  rw[hn7,hnr]
  exact zoZ pd m hpd c hc ags rs hag hrs Ak Aa Ar ck ca cr0 L hL RV RE Q hmr W (hk.be kk) (by have:=hkm.1;unfold maxLen at this;omega) (ha.be kk) (hr.be kk)
 have HPL:Hid (PL=.slice Ak m ck :: (L++[.slice Ar nr cr0])):=by show _=_;rw[hL,hnr];exact hPL
 have HP0:Hid (PL[0]?=some (.slice Ak m ck)):=by show _=_;rw[HPL.out];rfl
 have HP49:Hid (PL[49]?=some (.slice Ar nr cr0)):=by show _=_;rw[HPL.out,show 49=48+1 by decide,List.getElem?_cons_succ,List.getElem?_append_right (by rw[HLL.out];decide),HLL.out];rfl
 have HPC:Hid (∀ (j:Nat) (v:Value),L[j]?=some v->PL[1+j]?=some v):=fun j v hj=>by
  rw[HPL.out,show 1+j=j+1 by omega,List.getElem?_cons_succ,List.getElem?_append_left (List.getElem?_eq_some_iff.1 hj).1]
  exact hj
 have HN7:Hid (n7=Q.length):=hn7
 have HN1:Hid (n7<=100000):=by
  have hq:Q.length<=50:=hQl
  show _<=_
  omega
 clear hk hkm ha ham hr hrm hag hrs hpd hPL hQa hmr hc hL h0 hn7 hnr hQl
 go_enter Tryz.func3,Tryz.ntmps3
 go_upto_region 1 with (refine zaF 33 rfl (.tmp 0) rfl PL rfl ?_;intro X1 (R1:Hid (Row X1 w.heap.size PL 33)) (B1:Hid (Below w.heap.size w X1)) q3;clear q3;simp only[Act.put,jA,jB,jC])
 obtain⟨b1,hb1⟩:∃ b,b=w.heap.size:=⟨_,rfl⟩
 rw[<-hb1] at R1
 rw[<-hb1]
 clear hb1
 have c0:X1.cell? ⟨b1,0,none⟩=some (.slice Ak m ck):=R1.out.cell 0 _ HP0.out
 have c49:X1.cell? ⟨b1,49,none⟩=some (.slice Ar nr cr0):=R1.out.cell 49 _ HP49.out
 have RG1:Hid (X1.rangeAt b1 1 L):=R1.out.range 1 L (fun j v hj=>HPC.out j v hj)
 go_upto_region 2 with (first
  |(refine zaG rfl 30 (.tmp 12) rfl b1 1 rfl L _ RG1.out Tryz.underlying30 rfl HLI.out ?_;simp only[Act.put,jA,jB,jC])
  |(go_at_call 5;refine Calls.mono (HC0.out X1 B1.out) ?_;rintro e X2 ⟨A5,c5,rfl,q1,q2⟩;have LA2:Hid (Lw X2 tAk 30 (.slice A5 n7 c5) n7 Q.flatten):=q1;have B2:Hid (Below w.heap.size w X2):=B1.out.trans (q2.mono B1.out.size);have RP2:Hid (Row X2 b1 PL 33):=Row.below R1.out q2 R1.out.lt;clear q1 q2)
  |(refine zaT rfl rfl ?_;intro X3 (R3a:Hid (Row X3 X2.heap.size zR 35)) (K3:Hid (Below X2.heap.size X2 X3)) q3;clear q3;simp only[Act.put,jA,jB,jC])
  |(refine zaD rfl 35 (.tmp 3) (.tmp 17) rfl X2.heap.size RV zR 35 rfl rfl R3a.out HRV.out.1 HRVI.out HRV.out.2 ?_;intro X4 (E4:Hid (X4=_)) (R3:Hid (Row X4 X2.heap.size RV 35));simp only[Act.put]))
 have k4:Below X2.heap.size X2 X4:=by rw[E4.out];exact zaC K3.out (Nat.le_refl _) _
 have LA4:Hid (Lw X4 tAk 30 (.slice A5 n7 c5) n7 Q.flatten):=Lw.be LA2.out k4
 have B4:Hid (Below w.heap.size w X4):=B2.out.trans (k4.mono B2.out.size)
 have RP4:Hid (Row X4 b1 PL 33):=Row.below RP2.out k4 RP2.out.lt
 obtain⟨b3,hb3⟩:∃ b,b=X2.heap.size:=⟨_,rfl⟩
 rw[<-hb3] at R3
 rw[<-hb3]
 clear hb3 k4 E4 R3a K3 LA2 B2 RP2 R1 B1 HC0 c0 c49 RG1
 go_upto_region 3 with (first
  |(refine zaG rfl 33 (.tmp 1) rfl b1 0 rfl PL _ RP4.out.all Tryz.underlying33 rfl HPLI.out ?_;simp only[Act.put,jA,jB,jC])
  |(go_at_call 6;refine Calls.mono (HC1.out X4 B4.out) ?_;rintro e X5 ⟨A8,c8,rfl,q1,q2⟩;have LB5:Hid (Lw X5 tAk 30 (.slice A8 n7 c8) n7 Q.flatten):=q1;have LA5:Hid (Lw X5 tAk 30 (.slice A5 n7 c5) n7 Q.flatten):=Lw.be LA4.out q2;have B5:Hid (Below w.heap.size w X5):=B4.out.trans (q2.mono B4.out.size);have R35:Hid (Row X5 b3 RV 35):=Row.below R3.out q2 R3.out.lt;clear q1 q2)
  |(refine zaT rfl rfl ?_;intro X6 (R6a:Hid (Row X6 X5.heap.size zR 35)) (K6:Hid (Below X5.heap.size X5 X6)) q3;clear q3;simp only[Act.put,jA,jB,jC])
  |(refine zaD rfl 35 (.tmp 6) (.tmp 23) rfl X5.heap.size RV zR 35 rfl rfl R6a.out HRV.out.1 HRVI.out HRV.out.2 ?_;intro X7 (E7:Hid (X7=_)) (R6:Hid (Row X7 X5.heap.size RV 35));simp only[Act.put]))
 have k7:Below X5.heap.size X5 X7:=by rw[E7.out];exact zaC K6.out (Nat.le_refl _) _
 have B7:Hid (Below w.heap.size w X7):=B5.out.trans (k7.mono B5.out.size)
 have R37:Hid (Row X7 b3 RV 35):=Row.below R35.out k7 R35.out.lt
 have HQ8:Hid (Qin X7 A8 Q):=ztI HN7.out (Lw.be LB5.out k7)
 have HQ5:Hid (Qin X7 A5 Q):=ztI HN7.out (Lw.be LA5.out k7)
 obtain⟨b6,hb6⟩:∃ b,b=X5.heap.size:=⟨_,rfl⟩
 rw[<-hb6] at R6
 rw[<-hb6]
 clear hb6 k7 E7 R6a K6 LA4 LA5 LB5 B4 B5 R35 R3 HC1 RP4
 have HSA:Hid (Calls Tryz.prog 7 #[.slice A8 n7 c8,.slice A5 n7 c5] X7 fun e w'=>e=.returned (.bool true)/\Below X7.heap.size X7 w'):=zuH Q HQA.out n7 HN7.out HN1.out A8 A5 c8 c5 X7 HQ8.out HQ5.out
 have ee:(RE==RE)=true:=by simp
 clear HQ8 HQ5
 go_wp2_with (first
  |(refine ziU (by rfl) (.tmp 6) rfl b6 rfl RV HRV.out.1 R6.out ?_;simp only[Act.put,jA,jB,jC])
  |(refine ziU (by rfl) (.tmp 3) rfl b3 rfl RV HRV.out.1 R37.out ?_;simp only[Act.put,jA,jB,jC])
  |(refine zmH (by rfl) (.tmp 30) (.tmp 31) _ rfl RV m0 g0 HRF.out rfl rfl ?_;simp only[Act.put,jA,jB,jC])
  |(go_at_call 7;refine Calls.mono HSA.out ?_;rintro e X8 ⟨rfl,q⟩;have B8:Hid (Below w.heap.size w X8):=B7.out.trans (q.mono B7.out.size);clear q)
  |(go_at_call 8;refine Calls.mono (zkZ X8) ?_;rintro e X9 ⟨rfl,q⟩;have B9:Hid (Below w.heap.size w X9):=B8.out.trans (q.mono B8.out.size);clear q))
 go_ret
 exact⟨rfl,B9.out⟩
end Go.Proofs.YtedeobikfddmgaaGreat
namespace Go.Proofs.YtedeobikfddmgaaGreat.mru
open Go Go.RowKit Go.ChangeShapes Go.WideShapes Go.ChangeAt
open Sha
def pz:List Value:=Value.slice none 0 0 :: (List.replicate 40 (Value.int .u8 0)++[Value.int .i64 0,.int .u64 0,.int .u64 0,.int .u64 0,.int .u64 0,.slice none 0 0,.int .i64 0,.int .i64 0,.slice none 0 0])
theorem contract (H:Type) (enc:TypeId × Value->H) (W:World) (base:Nat) (args:Array Value) (ds gs:List (DataW H)) (before:List MemPlace)
 (hval:∀ (j:Nat) t v,Tryz.f3.params[j]?=some t->args[j]?=some v->Value.okWide Tryz.prog W .any base t v)
 (hW:DataW.Whole enc Tryz.prog Tryz.f3.params.toList Rows.machineRunsSpec.vars false W args.toList ds gs before)
 (hsz:(DataW.weightsEach Tryz.prog (Tryz.f3.params.toList++(OpenSpec.ofChange Rows.machineRunsSpec).bare.plain.varTypes Tryz.prog) (ds++gs)).all (·<=reachBytes)=true) :
 Calls Tryz.prog 3 args W fun e W'=>∃ v,e=.returned v/\Rows.machineRunsSpec.post enc Tryz.prog Tryz.f3 false true false false W args v W':=by
 have hW':=hW
 obtain⟨p,q,hA0,hV,rfl,hfz,hnd⟩:=hW
 have hA:DataW.TrodAll enc Tryz.prog W 0 (fun _=>true) true Tryz.f3.params.toList args.toList ds p:=hA0
 rw[Tryz.params3] at hA hval hsz
 obtain⟨v0,vs0,d0,ds0,p0,q0,hargs,rfl,rfl,h0,r0⟩:=trodAll_cons hA
 obtain⟨rfl,rfl,rfl⟩:=trodAll_nil r0
 obtain rfl:args=#[v0]:=by cases args;simp_all
 obtain⟨rfl,rfl⟩:=trodVars_none hV
 have k0:=h0
 have lt0:∀ x ∈ p0,x.block<W.heap.size:=by obtain⟨m,hm⟩:=k0;exact DataW.trod_lt m _ _ _ hm
 obtain⟨ca0,rfl,hca0⟩:=okWide_struct Tryz.underlying33 (hval 0 33 v0 rfl rfl)
 rw[zoE] at hca0
 obtain⟨pd0,Ak0,ck0,c0,ags0,Aa0,cg0,rs0,Ar0,cr0,wc0,es0,la0,lr0,sk0,sa0,sr0,hb0⟩:=(fun ⟨fuel,hf⟩=>play_f (by simpa [Value.cells] using hca0) hf:(∃ _,_)->_) h0
 replace hb0:=hb0 (fun mm hmm=>of_decide_eq_true (List.all_eq_true.1 hsz mm (DataW.weights_mem_each (j:=0) (t:=33) rfl rfl _ hmm)))
 have hrb0:reachBytes=140737488351232:=rfl
 rw[hrb0] at hb0
 obtain rfl:ca0=(Value.slice Ak0 pd0.length ck0 :: (c0.cs (.slice Aa0 ags0.length cg0)++[.slice Ar0 rs0.length cr0])).toArray:=by rw[<-es0];simp [Value.cells]
 have mk0:pd0.length<=maxLen/\pd0.length*1<=140737488355328:=⟨by unfold maxLen;omega,by omega⟩
 have ma0:ags0.length<=maxLen/\ags0.length*32<=140737488355328:=⟨by unfold maxLen;omega,by omega⟩
 have mr0:rs0.length<=maxLen/\rs0.length*40<=140737488355328:=⟨by unfold maxLen;omega,by omega⟩
 clear hA0
 refine (zuF pd0 pd0.length rfl c0 wc0 ags0 rs0 la0 lr0 Ak0 Aa0 Ar0 ck0 cg0 cr0 _ rfl  W sk0 mk0 sa0 ma0 sr0 mr0).mono fun e W' ⟨he,bel⟩=>?_
 subst he
 exact⟨_,rfl,_,_,_,[],_,[],hW',trodAll_mk1 (shut_bool Tryz.underlying4 _),(trodAll_cons_mk (Below.trod ztE (by kernel_rfl) (of_decide_eq_true (by kernel_rfl)) k0 bel lt0) trodAll_mk0),rfl,bel.frame _,fun h=>by cases h⟩
theorem laid_met (os:Os):laidMet Tryz.prog Rows.machineRunsRow.laid (({ World.holding Tryz.prog os ⟨#[],#[],[]⟩ with heap:=(World.holding Tryz.prog os ⟨#[],#[],[]⟩).heap }:World).forCall (fun _ _=>0) ⟨#[],#[.agg pz.toArray],[]⟩).memory:=
 laidMet_of_run' 8 (by kernel_rfl) (by kernel_rfl)
theorem reads (os:Os) {H:Type} (enc:TypeId × Value->H):∃ places,DataW.whole enc Tryz.prog (({ World.holding Tryz.prog os ⟨#[],#[],[]⟩ with heap:=(World.holding Tryz.prog os ⟨#[],#[],[]⟩).heap }:World).forCall (fun _ _=>0) ⟨#[],#[.agg pz.toArray],[]⟩).memory Tryz.f3.params.toList Rows.machineRunsSpec.vars false (#[.agg pz.toArray]:Array Value).toList 8=some ([.agg [.nil,.agg [.agg (List.replicate 20 (.lit (.int .u8 0))),.agg (List.replicate 20 (.lit (.int .u8 0))),.lit (.int .i64 0),.agg (List.replicate 4 (.lit (.int .u64 0))),.nil,.lit (.int .i64 0),.lit (.int .i64 0)],.nil]],[],places):=
 ⟨[],by kernel_rfl⟩
theorem lifted (os:Os) (started:os.Started) (H:Type) (enc:TypeId × Value->H) (F:Stop.Interp) :
 ReturnsInHanded {} Tryz.checked os 3 .any ((OpenSpec.ofChange Rows.machineRunsSpec).preRow enc Tryz.prog Tryz.f3 Rows.machineRunsRow.domain false Rows.machineRunsRow.laid) (((OpenSpec.ofChange Rows.machineRunsSpec).at F).post enc Tryz.prog Tryz.f3 false true false false):=by
 obtain⟨places,hx⟩:=reads os enc
 refine returnsInHanded_of_row (C:=Tryz.checked) (s:=OpenSpec.ofChange Rows.machineRunsSpec) own started (by kernel_rfl) Tryz.func3
  (witness_row_at (enc:=enc) (C:=Tryz.checked) false ({ World.holding Tryz.prog os ⟨#[],#[],[]⟩ with heap:=(World.holding Tryz.prog os ⟨#[],#[],[]⟩).heap }:World) #[.agg pz.toArray] rfl (by kernel_rfl) (by kernel_rfl) (by kernel_rfl)
    (OpenSpec.preRow_of_cond 8 hx (by kernel_rfl) (fun k hk=>by cases hk) (by kernel_rfl) (laid_met os))) ?_
 intro W base args ds gs before hval hW _ hc hsz hL _ _
 exact contract H enc W base args ds gs before hval hW hsz
theorem said:Rows.MachineRunsSaid:=
 OpenClaim.holds_of_cond 3 Tryz.f3 rfl rfl rfl rfl rfl rfl rfl ⟨rfl,rfl,rfl,rfl,rfl⟩ rfl rfl rfl rfl rfl (by kernel_rfl) Tryz.func3 (by kernel_rfl)
  (of_decide_eq_true (by kernel_rfl)) (by unfold Func.isWrapper;first|(rw[if_pos (by decide +kernel)];kernel_rfl)|(rw[if_neg (by decide +kernel)];exact⟨rfl,rfl⟩))
  (fun os started H enc _ F=>by rw[OpenClaim.pre_eq_preRow];exact lifted os started H enc F)
end Go.Proofs.YtedeobikfddmgaaGreat.mru
