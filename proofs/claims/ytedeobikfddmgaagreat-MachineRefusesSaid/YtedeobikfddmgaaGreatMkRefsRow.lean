import Derived.Test.YtedeobikfddmgaaGreatMkAA
import Derived.Test.YtedeobikfddmgaaGreatMkFk
import Derived.Test.YtedeobikfddmgaaGreatMkHk
import Derived.Test.YtedeobikfddmgaaGreatMkFn
set_option maxRecDepth 100000
set_option maxHeartbeats 16000000
namespace Go.Proofs.YtedeobikfddmgaaGreat
open Go Go.RowKit
open Sha
open Wd
theorem run_go2 {inn:List (BitVec 8)} (HNX:zcN inn) (pd:List (BitVec 8)) (m:Nat) (hpd:pd.length=m) (hm:m<9223372036854775808) (c:Ca) (hc:c.Wf) (ags:List Nat) (A:Option Addr) (ca:Nat) (g cg hb:Nat) (hcg:m<=cg) (rv iv:Value) (rs:List (Nat × Int)) (L:List Value) (hL:L=c.cs (.slice A ags.length ca)) (hag:∀ a ∈ ags,a<2 ^ 256) (hrs:∀ p ∈ rs,p.1<2 ^ 256) (ls:List Ins) (hck:chk pd=some ls) (hmay:(0<=c.tok/\c.tok<64/\ags.length<=8/\0<=c.tm/\c.tm<=4611686018427387904/\1<=c.gas/\c.gas<=10000)) (G:Nat) (hG:(G:Int)=c.gas) (R:Except Int (Nat × Nat)) (Q:List (List Value)) (hev:ev2 c.cl ags ls rs 10001 [] G 0 0=(R,Q)) (RV:List Value) (RE:Int) (hRV:zcH G R=(RV,RE)) (w:World) (hav:∀ X,Below w.heap.size w X->Calls Tryz.prog 27 #[.slice A ags.length ca] X fun e w'=>∃ A2 c2,e=.returned (.slice A2 ags.length c2)/\Lw w' 27 4 (.slice A2 ags.length c2) ags.length (fw ags)/\Below X.heap.size X w') (hr:w.rangeAt g 0 (vB pd)) (H:Hst w hb rv (.slice none 0 0) iv rs [] inn):Calls Tryz.prog 9 #[.slice (some ⟨g,0,none⟩) m cg,.agg L.toArray,.iface 46 (.pointer (some ⟨hb,0,none⟩))] w fun e w'=>e=.returned (.tuple #[.agg RV.toArray,.int .i64 RE])/\∃ qv',Hst w' hb rv qv' iv rs Q inn/\Gro (·=hb) w w':=by
 have HMAY:Hid (0<=c.tok/\c.tok<64/\ags.length<=8/\0<=c.tm/\c.tm<=4611686018427387904/\1<=c.gas/\c.gas<=10000):=hmay
 have HALL:Hid (zcN inn/\(∀ a ∈ ags,a<2 ^ 256)/\(∀ p ∈ rs,p.1<2 ^ 256)/\(G:Int)=c.gas/\ev2 c.cl ags ls rs 10001 [] G 0 0=(R,Q)/\zcH G R=(RV,RE)):=⟨HNX,hag,hrs,hG,hev,hRV⟩
 have HAV:Hid (∀ X,Below w.heap.size w X->Calls Tryz.prog 27 #[.slice A ags.length ca] X fun e w'=>∃ A2 c2,e=.returned (.slice A2 ags.length c2)/\Lw w' 27 4 (.slice A2 ags.length c2) ags.length (fw ags)/\Below X.heap.size X w'):=hav
 obtain⟨na,hna⟩:∃ n,n=ags.length:=⟨_,rfl⟩
 have HNA:Hid (na=ags.length):=hna
 have HRL:Hid (RV.length=5/\RV.toArray.all (·.oneCell')=true):=by have:=zgN G R;rw[hRV] at this;exact this
 clear hmay HNX hag hrs hG hev hRV hav
 rw[<-hna] at hL
 have HR:Hid (w.rangeAt g 0 (vB pd)):=hr
 have HL:Hid (L=c.cs (.slice A na ca)):=hL
 have HCW:Hid c.Wf:=hc
 have HLI:Hid ((Tryz.prog.info? 30).map (·.size)=some L.length):=by show _=_;rw[hL,Ca.len hc];exact zdR
 have hq:=zdQ 46 (.pointer (some ⟨hb,0,none⟩))
 have HCG:Hid (m<=cg):=hcg
 have HPD:Hid (pd.length=m):=hpd
 have HHO:Hid (Hst w hb rv (.slice none 0 0) iv rs [] inn):=H
 have HM63:Hid (m<9223372036854775808):=hm
 clear hna hr hL hcg hpd hc H hm
 go_enter Tryz.func9,Tryz.ntmps9
 go_upto_region 3 with (first
  |(refine zaF 30 rfl (.tmp 1) rfl L rfl ?_;intro X1 (R4:Hid (Row X1 w.heap.size L 30)) (B1:Hid (Below w.heap.size w X1)) q3;clear q3;simp only[Act.put,jA,jB,jC])
  |(refine zaT rfl rfl ?_;intro X2 (R6:Hid (Row X2 X1.heap.size zR 35)) (B2:Hid (Below X1.heap.size X1 X2)) q3;clear q3;simp only[Act.put,jA,jB,jC]))
 obtain⟨b4,hb4⟩:∃ b,b=w.heap.size:=⟨_,rfl⟩
 obtain⟨b6,hb6⟩:∃ b,b=X1.heap.size:=⟨_,rfl⟩
 have HB4:Hid (b4=w.heap.size/\w.heap.size<=b6):=⟨hb4,by rw[hb6];exact B1.out.size⟩
 have BB:Hid (Below w.heap.size w X2):=B1.out.trans (B2.out.mono B1.out.size)
 replace R4:Hid (Row X2 b4 L 30):=by rw[hb4];exact Row.below R4.out B2.out R4.out.lt
 replace R6:Hid (Row X2 b6 zR 35):=by rw[hb6];exact R6.out
 rw[<-hb4,<-hb6]
 clear hb4 hb6 B1 B2 hq
 go_upto_region 4 with (go_at_call 24;refine Calls.mono (zfG X2) ?_;rintro e X3 ⟨rfl,qt,q2⟩;have RT:Hid (Row X3 X2.heap.size mtab 95):=qt;have B3:Hid (Below w.heap.size w X3):=BB.out.trans (q2.mono BB.out.size);have R43:Hid (Row X3 b4 L 30):=Row.below R4.out q2 R4.out.lt;have R63:Hid (Row X3 b6 zR 35):=Row.below R6.out q2 R6.out.lt;clear qt q2 R4 R6 BB)
 obtain⟨T,hT⟩:∃ T,T=X2.heap.size:=⟨_,rfl⟩
 rw[<-hT] at RT
 rw[<-hT]
 clear hT
 obtain⟨k,hk⟩:∃ k,k=ls.length:=⟨_,rfl⟩
 have HK:Hid (k=ls.length):=hk
 have HCK:Hid (chk pd=some ls):=hck
 have HRD:Hid _:=ziF pd m k ls HPD.out hck hk.symm T g cg HCG.out X3 RT.out (zaS HR.out B3.out)
 clear hck hk
 go_upto_region 5 with (first
  |(go_at_call 25;refine Calls.mono HRD.out ?_;rintro e X4 ⟨A1,c1,gs,rfl,q3,q4,q2⟩;have LP:Hid (Lw X4 97 7 (.slice A1 k c1) k (fl ls)):=q3;have RS:Hid (Row X4 gs (vI (sts ls m)) 3):=q4;have B4:Hid (Below w.heap.size w X4):=B3.out.trans (q2.mono B3.out.size);have RT4:Hid (Row X4 T mtab 95):=Row.below RT.out q2 RT.out.lt;have R44:Hid (Row X4 b4 L 30):=Row.below R43.out q2 R43.out.lt;have R64:Hid (Row X4 b6 zR 35):=Row.below R63.out q2 R63.out.lt;clear q2 q3 q4)
  |(refine zbT rfl rfl ?_;intro X5 (R9:Hid (Row X5 X4.heap.size zP 72)) (B5:Hid (Below X4.heap.size X4 X5)) q3;clear q3;simp only[Act.put,jA,jB,jC])
  |(refine zaD rfl 72 (.tmp 9) (.tmp 20) rfl X4.heap.size [.slice A1 k c1,.slice (some ⟨gs,0,none⟩) m m] zP 72 rfl rfl R9.out rfl zcC (zjM A1 _ _ _ m) ?_;intro X6 (E6:Hid (X6=_)) (R96:Hid (Row X6 X4.heap.size [.slice A1 k c1,.slice (some ⟨gs,0,none⟩) m m] 72));simp only[Act.put]))
 have BY:Below X4.heap.size X4 X6:=by rw[E6.out];exact zaC B5.out (Nat.le_refl _) _
 obtain⟨b9,hb9⟩:∃ b,b=X4.heap.size:=⟨_,rfl⟩
 rw[<-hb9] at R96
 rw[<-hb9]
 have LP6:Hid (Lw X6 97 7 (.slice A1 k c1) k (fl ls)):=Lw.be LP.out BY
 have RS6:Hid (Row X6 gs (vI (sts ls m)) 3):=Row.below RS.out BY RS.out.lt
 have B6:Hid (Below w.heap.size w X6):=B4.out.trans (BY.mono B4.out.size)
 have RT6:Hid (Row X6 T mtab 95):=Row.below RT4.out BY RT4.out.lt
 have R46:Hid (Row X6 b4 L 30):=Row.below R44.out BY R44.out.lt
 have R66:Hid (Row X6 b6 zR 35):=Row.below R64.out BY R64.out.lt
 have hmball:=ziB L A na ca c.tok c.tm c.gas (by rw[HL.out];exact Ca.at40 HCW.out _) (by rw[HL.out];exact Ca.at45 HCW.out _) (by rw[HL.out];exact Ca.at46 HCW.out _) (by rw[HL.out];exact Ca.at47 HCW.out _) X6
 have HMB:Hid _:=hmball.1 (by rw[HNA.out];exact HMAY.out)
 clear BY hb9 E6 R9 B5 LP RS B4 RT4 R44 R64 R43 R63 B3 RT HRD hmball
 go_upto_region 9 with (first
  |(refine zaG rfl 30 (.tmp 4) rfl b4 0 rfl L _ R46.out.all Tryz.underlying30 rfl HLI.out ?_;simp only[Act.put,jA,jB,jC])
  |(go_at_call 26;refine Calls.mono HMB.out ?_;rintro e X7 ⟨rfl,q2⟩;have LP7:Hid (Lw X7 97 7 (.slice A1 k c1) k (fl ls)):=Lw.be LP6.out q2;have RS7:Hid (Row X7 gs (vI (sts ls m)) 3):=Row.below RS6.out q2 RS6.out.lt;have B7:Hid (Below w.heap.size w X7):=B6.out.trans (q2.mono B6.out.size);have RT7:Hid (Row X7 T mtab 95):=Row.below RT6.out q2 RT6.out.lt;have R47:Hid (Row X7 b4 L 30):=Row.below R46.out q2 R46.out.lt;have R67:Hid (Row X7 b6 zR 35):=Row.below R66.out q2 R66.out.lt;have R97:Hid (Row X7 b9 [.slice A1 k c1,.slice (some ⟨gs,0,none⟩) m m] 72):=Row.below R96.out q2 R96.out.lt;clear q2))
 have c45:X7.cell? ⟨b4,45,none⟩=some (.slice A na ca):=R47.out.cell 45 _ (by rw[HL.out];exact Ca.at45 HCW.out _)
 have HCL:Hid (Calls Tryz.prog 27 #[.slice A na ca] X7 fun e w'=>∃ A2 c2,e=.returned (.slice A2 na c2)/\Lw w' 27 4 (.slice A2 na c2) na (fw ags)/\Below X7.heap.size X7 w'):=by
  have:=HAV.out X7 B7.out
  rw[<-HNA.out] at this
  exact this
 have HL45:Hid (45<L.length):=by show _<_;rw[HL.out,Ca.len HCW.out];decide
 clear HMB LP6 RS6 B6 RT6 R46 R66 R96
 go_upto_region 10 with (first
  |(go_at_call 27;refine Calls.mono HCL.out ?_;rintro e X8 ⟨Aa,cc,rfl,qa,q2⟩;have LA8:Hid (Lw X8 27 4 (.slice Aa na cc) na (fw ags)):=qa;have LP8:Hid (Lw X8 97 7 (.slice A1 k c1) k (fl ls)):=Lw.be LP7.out q2;have RS8:Hid (Row X8 gs (vI (sts ls m)) 3):=Row.below RS7.out q2 RS7.out.lt;have B8:Hid (Below w.heap.size w X8):=B7.out.trans (q2.mono B7.out.size);have RT8:Hid (Row X8 T mtab 95):=Row.below RT7.out q2 RT7.out.lt;have R48:Hid (Row X8 b4 L 30):=Row.below R47.out q2 R47.out.lt;have R68:Hid (Row X8 b6 zR 35):=Row.below R67.out q2 R67.out.lt;have R98:Hid (Row X8 b9 [.slice A1 k c1,.slice (some ⟨gs,0,none⟩) m m] 72):=Row.below R97.out q2 R97.out.lt;clear qa q2)
  |(refine zbI rfl 28 (.tmp 35) (.tmp 34) rfl b4 45 (.slice Aa na cc) L 30 rfl rfl rfl R48.out HL45.out zgU rfl ?_;intro X9 (R49:Hid (Row X9 b4 (L.set 45 (.slice Aa na cc)) 30)) (G9:Hid (Gro (·=b4) X8 X9)) q3;clear q3;simp only[Act.put]))
 obtain⟨M,hM⟩:∃ M,M=c.cs (.slice Aa na cc):=⟨_,rfl⟩
 have HM:Hid (M=c.cs (.slice Aa na cc)):=hM
 have R4M:Hid (Row X9 b4 M 30):=by rw[hM,<-Ca.set45 HCW.out (.slice A na ca),<-HL.out];exact R49.out
 have HMI:Hid ((Tryz.prog.info? 30).map (·.size)=some M.length):=by show _=_;rw[hM,Ca.len HCW.out];exact zdR
 have LA9:Hid (Lw X9 27 4 (.slice Aa na cc) na (fw ags)):=Lw.gro LA8.out G9.out (Lw.ne LA8.out R48.out (by decide))
 have LP9:Hid (Lw X9 97 7 (.slice A1 k c1) k (fl ls)):=Lw.gro LP8.out G9.out (Lw.ne LP8.out R48.out (by decide))
 have RS9:Hid (Row X9 gs (vI (sts ls m)) 3):=G9.out.row RS8.out (zaN RS8.out R48.out (by decide))
 have RT9:Hid (Row X9 T mtab 95):=G9.out.row RT8.out (zaN RT8.out R48.out (by decide))
 have R69:Hid (Row X9 b6 zR 35):=G9.out.row R68.out (zaN R68.out R48.out (by decide))
 have R99:Hid (Row X9 b9 [.slice A1 k c1,.slice (some ⟨gs,0,none⟩) m m] 72):=G9.out.row R98.out (zaN R98.out R48.out (by decide))
 have B9:Hid (Below w.heap.size w X9):=B8.out.trans (G9.out.to_below B8.out.size (fun k e=>by rw[e,HB4.out.1];exact Nat.le_refl _))
 have c47:X9.cell? ⟨b4,47,none⟩=some (.int .i64 (G:Int)):=R4M.out.cell 47 _ (by rw[hM,HALL.out.2.2.2.1];exact Ca.at47 HCW.out _)
 obtain⟨RC,hRC⟩:∃ RC,RC=rc T (.slice A1 k c1) (.slice (some ⟨gs,0,none⟩) m m) M (.iface 46 (.pointer (some ⟨hb,0,none⟩))) (.slice none 0 0) G 0 zW:=⟨_,rfl⟩
 have HRC:Hid (RC=rc T (.slice A1 k c1) (.slice (some ⟨gs,0,none⟩) m m) M (.iface 46 (.pointer (some ⟨hb,0,none⟩))) (.slice none 0 0) G 0 zW):=hRC
 have HBU:Hid (Tryz.prog.built 79 [(0,.slice (some ⟨T,0,none⟩) 28 28),(1,.agg #[.slice A1 k c1,.slice (some ⟨gs,0,none⟩) m m]),(2,.agg M.toArray),(3,.iface 46 (.pointer (some ⟨hb,0,none⟩))),(5,.int .i64 (G:Int))]=some RC.toArray):=by show _=_;rw[hRC];exact zjG T A1 k c1 gs m M (by rw[hM];exact Ca.len HCW.out _) 46 hb G
 clear hM hRC c45 R49 G9 LA8 LP8 RS8 B8 RT8 R48 R68 R98 HCL LP7 RS7 B7 RT7 R47 R67 R97 HL45 HL
 go_upto_region 11 with (first
  |(refine zaG rfl 72 (.tmp 9) rfl b9 0 rfl [.slice A1 k c1,.slice (some ⟨gs,0,none⟩) m m] _ R99.out.all Tryz.underlying72 rfl zcC ?_;simp only[Act.put,jA,jB,jC])
  |(refine zaG rfl 30 (.tmp 4) rfl b4 0 rfl M _ R4M.out.all Tryz.underlying30 rfl HMI.out ?_;simp only[Act.put,jA,jB,jC])
  |(refine zbU rfl 79 _ rfl [(0,.slice (some ⟨T,0,none⟩) 28 28),(1,.agg #[.slice A1 k c1,.slice (some ⟨gs,0,none⟩) m m]),(2,.agg M.toArray),(3,.iface 46 (.pointer (some ⟨hb,0,none⟩))),(5,.int .i64 (G:Int))] rfl RC HBU.out ?_;simp only[Act.put,jA,jB,jC])
  |(refine zaF 79 rfl (.tmp 42) rfl RC rfl ?_;intro Y (RR:Hid (Row Y X9.heap.size RC 79)) (BY:Hid (Below X9.heap.size X9 Y)) q3;clear q3;simp only[Act.put,jA,jB,jC]))
 have hok:=zlB HCK.out
 have hmy:=HMAY.out
 have hbig:4611686018427387905<2 ^ 256:=Nat.lt_of_lt_of_le (by decide:4611686018427387905<2 ^ 63) (Nat.pow_le_pow_right (by decide) (by decide))
 have HLR:Hid (Lr X9 hb X9.heap.size T gs m (.slice A1 k c1) M (.slice Aa na cc) ls ags rv iv rs inn Y (.slice none 0 0) [] G 0 zW (.slice none 0 0) []):=
  ⟨X9,rfl,Gro.refl _ _,⟨by rw[<-HRC.out];exact RR.out,by rw[HM.out];exact Ca.len HCW.out _,rfl,Lw.nil _ _ _,Row.below RT9.out BY.out RT9.out.lt,(by rw[<-HK.out];exact Lw.be LP9.out BY.out),Row.below RS9.out BY.out RS9.out.lt,by rw[HM.out];exact Ca.at45 HCW.out _,(by rw[<-HNA.out];exact Lw.be LA9.out BY.out),(fun g e=>by cases e),BY.out,Nat.le_refl _,(fun g e=>by cases e),(fun _ _ q=>q)⟩,HHO.out.below (B9.out.trans (BY.out.mono B9.out.size)),(fun g e=>by cases e)⟩
 have HVA:Hid (zpW (2 ^ 256) c.cl ags ls rs):=⟨Nat.lt_trans (by decide) hbig,fun h1 h2 h3=>(zrM h1 h2 h3).1,HALL.out.2.1,by omega,ztM,(by show c.tok.toNat<_;exact Nat.lt_trans (by omega:c.tok.toNat<4611686018427387905) hbig),HCW.out.amt,(by show c.tm.toNat<_;exact Nat.lt_trans (by omega:c.tm.toNat<4611686018427387905) hbig),hok.2.2.2.1,HALL.out.2.2.1,hok.2.2.2.2.1⟩
 have HAL:Hid _:=zrI HALL.out.1 X9 hb X9.heap.size T gs m (HHO.out.below B9.out).row.lt (.slice A1 k c1) M (.slice Aa na cc) ls ags rv iv rs c.cl (by rw[HM.out];exact Ca.inC HCW.out _ hmy.1 hmy.2.1 hmy.2.2.2.1 hmy.2.2.2.2.1) HVA.out hok.1 hok.2.1 (by rw[<-HPD.out];exact hok.2.2.1) G (by have:=HALL.out.2.2.2.1;omega) (by rw[HM.out,HALL.out.2.2.2.1];exact Ca.at47 HCW.out _) (.slice none 0 0) zW (.slice none 0 0) R Q HALL.out.2.2.2.2.1 RV RE HALL.out.2.2.2.2.2 Y HLR.out
 clear c47 HLR RR hok hmy hbig HVA
 go_wp2_with (first
  |(go_at_call 28;refine Calls.mono HAL.out ?_;rintro e Z ⟨rfl,qv2,q1,q2⟩;have RZ:Hid (Row Z b6 zR 35):=q2.row R69.out (fun e=>zaN R69.out (HHO.out.below B9.out).row (by decide) e);have HZ:Hid (Hst Z hb rv qv2 iv rs Q inn/\Gro (·=hb) X9 Z):=⟨q1,q2⟩;clear q1 q2)
  |(refine zaD rfl 35 (.tmp 6) (.tmp 46) rfl b6 RV zR 35 rfl rfl RZ.out HRL.out.1 (by rw[HRL.out.1];exact zaP) HRL.out.2 ?_;intro Z2 (EZ:Hid (Z2=_)) (RZ2:Hid (Row Z2 b6 RV 35));simp only[Act.put]))
 have hF:=HZ.out.1.fin B9.out HZ.out.2 (by rw[EZ.out];exact zbB b6 _ 0 Z Z (Gro.refl _ Z)) RZ.out HB4.out.2 HHO.out.row.lt (Y:=Z2)
 refine bodyPost_ret (zaO Tryz.results9 _ _ b6 35 RV (.int .i64 RE) rfl rfl RZ2.out Tryz.underlying35 (by rw[HRL.out.1];exact zaP)) rfl ?_
 exact⟨rfl,_,hF⟩
theorem zzH {inn:List (BitVec 8)} (HNX:zcN inn) (pd:List (BitVec 8)) (m:Nat) (hpd:pd.length=m) (hm:m<9223372036854775808) (c:Ca) (hc:c.Wf) (ags:List Nat) (A:Option Addr) (ca:Nat) (g cg hb:Nat) (hcg:m<=cg) (rv iv:Value) (rs:List (Nat × Int)) (L:List Value) (hL:L=c.cs (.slice A ags.length ca)) (hag:∀ a ∈ ags,a<2 ^ 256) (hrs:∀ p ∈ rs,p.1<2 ^ 256) (RV:List Value) (RE:Int) (Q:List (List Value)) (hmr:zkW pd c ags rs=((RV,RE),Q)) (w:World) (hav:ags.length<=8->(∀ X,Below w.heap.size w X->Calls Tryz.prog 27 #[.slice A ags.length ca] X fun e w'=>∃ A2 c2,e=.returned (.slice A2 ags.length c2)/\Lw w' 27 4 (.slice A2 ags.length c2) ags.length (fw ags)/\Below X.heap.size X w')) (hr:w.rangeAt g 0 (vB pd)) (H:Hst w hb rv (.slice none 0 0) iv rs [] inn):Calls Tryz.prog 9 #[.slice (some ⟨g,0,none⟩) m cg,.agg L.toArray,.iface 46 (.pointer (some ⟨hb,0,none⟩))] w fun e w'=>e=.returned (.tuple #[.agg RV.toArray,.int .i64 RE])/\∃ qv',Hst w' hb rv qv' iv rs Q inn/\Gro (·=hb) w w':=by
 unfold zkW at hmr
 cases hck:chk pd with
 |none=>
  rw[hck] at hmr
  simp only[Prod.mk.injEq] at hmr
  obtain⟨⟨rfl,rfl⟩,rfl⟩:=hmr
  exact zpD pd m hpd hm c hc ags A ca g cg hb hcg rv iv rs L hL hck w hr H
 |some ls=>
  rw[hck] at hmr
  simp only at hmr
  split at hmr
  ·rename_i hmay
   obtain⟨h1,h2⟩:=Prod.mk.inj hmr
   exact run_go2 HNX pd m hpd hm c hc ags A ca g cg hb hcg rv iv rs L hL hag hrs ls hck hmay c.gas.toNat (by omega) _ Q (Prod.ext rfl h2) RV RE h1 w (hav (by omega)) hr H
  ·rename_i hmay
   simp only[Prod.mk.injEq] at hmr
   obtain⟨⟨rfl,rfl⟩,rfl⟩:=hmr
   exact zpC pd m hpd hm c hc ags A ca g cg hb hcg rv iv rs L hL ls hck hmay w hr H
theorem zrW (ags:List Nat) (n:Nat) (hn0:n=ags.length) (hn:n<=100) (A:Option Addr) (c:Nat) (w:World) (h:Sin w 4 A n c (fw ags)):Calls Tryz.prog 27 #[.slice A n c] w fun e w'=>∃ A2 c2,e=.returned (.slice A2 n c2)/\Lw w' 27 4 (.slice A2 n c2) n (fw ags)/\Below w.heap.size w w':=by
 cases A with
 |none=>
  rcases h with ⟨h1,h2,h3⟩|⟨g,o,h1,_⟩
  ·have h3:=h3 rfl
   have h4:ags=[]:=List.eq_nil_of_length_eq_zero (by omega)
   subst h1 h3 h4
   exact zlC [] (by simp) _ w (.inl ⟨rfl,rfl⟩)
  ·cases h1
 |some ad=>
  have hq:=zpU ad n c
  have HS:Hid (Sin w 4 (some ad) n c (fw ags)):=h
  have HM:Hid (n<=maxLen/\n*32<=140737488355328):=⟨by unfold maxLen;omega,by omega⟩
  clear h hn hn0
  go_enter Tryz.func27,Tryz.ntmps27
  go_wp2_with (first
   |(refine zeG rfl rfl ?_;intro X7 (RE7:Hid (Row X7 w.heap.size [] 27)) (B7:Hid (Below w.heap.size w X7)) q3;clear q3;simp only[Act.put,jA,jB,jC])
   |(refine zcY 28 27 4 32 Tryz.underlying28 zbO (by decide) rfl _ (.tmp 6) rfl w.heap.size rfl RE7.out (some ad) n c (fw ags) rfl (HS.out.be B7.out) HM.out.1 HM.out.2 ?_;intro g8 c8 X8 q1 q2 q3 q4;have LA8:Hid (Lw X8 27 4 (.slice (some ⟨g8,0,none⟩) n c8) n (fw ags)):=q1;have B8:Hid (Below w.heap.size w X8):=B7.out.trans (q3.mono B7.out.size);clear q1 q2 q3 q4;simp only[Act.put,jA,jB,jC]))
  go_ret
  exact⟨some ⟨g8,0,none⟩,c8,rfl,LA8.out,B8.out⟩
theorem run_nil (v0:Value) (L:List Value) (w:World):Calls Tryz.prog 9 #[v0,.agg L.toArray,.nilIface] w fun e w'=>e=.returned (.tuple #[.agg zR.toArray,.int .i64 1])/\Below w.heap.size w w':=by
 go_enter Tryz.func9,Tryz.ntmps9
 go_upto_region 1 with (first
  |(refine zaF 30 rfl (.tmp 1) rfl L rfl ?_;intro X1 (R4:Hid (Row X1 w.heap.size L 30)) (B1:Hid (Below w.heap.size w X1)) q3;clear q3;simp only[Act.put,jA,jB,jC])
  |(refine zaT rfl rfl ?_;intro X2 (R6:Hid (Row X2 X1.heap.size zR 35)) (B2:Hid (Below X1.heap.size X1 X2)) q3;clear q3;simp only[Act.put,jA,jB,jC]))
 obtain⟨b6,hb6⟩:∃ b,b=X1.heap.size:=⟨_,rfl⟩
 have HB6:Hid (w.heap.size<=b6):=by rw[hb6];exact B1.out.size
 have BB:Hid (Below w.heap.size w X2):=B1.out.trans (B2.out.mono B1.out.size)
 replace R6:Hid (Row X2 b6 zR 35):=by rw[hb6];exact R6.out
 rw[<-hb6]
 clear hb6 B1 B2 R4
 go_wp2_with (refine zaD rfl 35 (.tmp 6) (.tmp 14) rfl b6 zR zR 35 rfl rfl R6.out rfl zaP zcW ?_;intro Z2 (EZ:Hid (Z2=_)) (RZ2:Hid (Row Z2 b6 zR 35));simp only[Act.put])
 refine bodyPost_ret (zaO Tryz.results9 _ _ b6 35 zR (.int .i64 1) rfl rfl RZ2.out Tryz.underlying35 zaP) rfl ?_
 exact⟨rfl,by rw[EZ.out];exact zaC BB.out HB6.out zR⟩
theorem exi_101 (cl:Cl) (ags:List Nat) (ls:List Ins) (c a ni:Nat) (st:List Nat) (l nx:Nat):exi cl ags ls c a ni st l nx ≠ .error 101:=by
 unfold exi
 split
 all_goals first
  |(intro h;cases h;done)
  |(split
    ·split
     ·intro h;cases h
     ·intro h;cases h
    ·intro h;cases h)
theorem exh_101 (c:Nat) (st:List Nat) (nx nq:Nat):(exh [] c st nx nq).1 ≠ .error 101:=by
 have e:([]:List (Nat × Int)).getD nq (0,0)=(0,0):=by simp
 unfold exh
 rw[e]
 simp only[if_true]
 split
 ·intro h;cases h
 split
 ·intro h;cases h
 split
 ·split <;> (intro h;cases h)
 ·split <;> (intro h;cases h)
theorem stU_101 (cl:Cl) (ags:List Nat) (ls:List Ins) (x:Ins) (st:List Nat) (l nx nq:Nat):(stU cl ags ls [] x st l nx nq).1 ≠ .error 101:=by
 unfold stU
 split
 ·intro h;cases h
 split
 ·intro h;cases h
 split
 ·intro h;cases h
 split
 ·exact exi_101 _ _ _ _ _ _ _ _ _
 ·exact exh_101 _ _ _ _
theorem zsM (cl:Cl) (ags:List Nat) (ls:List Ins):∀ (f:Nat) (st:List Nat) (l nx nq:Nat),(ev2 cl ags ls [] f st l nx nq).1 ≠ .error 101
 |0,_,_,_,_=>by unfold ev2;intro h;cases h
 |f+1,st,l,nx,nq=>by
  unfold ev2
  cases hx:ls[nx]? with
  |none=>intro h;cases h
  |some x=>
   simp only
   have hs:=stU_101 cl ags ls x st l nx nq
   cases hq:stU cl ags ls [] x st l nx nq with
   |mk r q=>
    rw[hq] at hs
    cases r with
    |error E=>
     intro h
     simp only[Except.error.injEq] at h
     exact hs (by rw[h])
    |ok y=>
     obtain⟨st',nx'⟩:=y
     simp only
     split
     ·intro h;cases h
     ·exact zsM cl ags ls f _ _ _ _
theorem zqS (pd:List (BitVec 8)) (c:Ca) (ags:List Nat) (rs:List (Nat × Int)) (RV RV0:List Value) (RE RE0:Int) (Q Q0:List (List Value)) (h:zkW pd c ags rs=((RV,RE),Q)) (h0:zkW pd c ags []=((RV0,RE0),Q0)):(ec pd=100/\RE=100/\Q=[])\/(ec pd=0/\RE=101/\Q=[]/\RE0=101)\/(ec pd=0/\RE0≠101):=by
 unfold zkW at h h0
 cases hck:chk pd with
 |none=>
  rw[hck] at h
  simp only[Prod.mk.injEq] at h
  exact .inl ⟨zxO hck,h.1.2.symm,h.2.symm⟩
 |some ls=>
  rw[hck] at h h0
  simp only at h h0
  split at h
  ·rename_i hm
   rw[if_pos hm] at h0
   refine .inr (.inr ⟨zoH hck,fun e=>?_⟩)
   have h1:=(Prod.mk.inj h0).1
   have h2:=zsM c.cl ags ls 10001 [] c.gas.toNat 0 0
   cases hr:(ev2 c.cl ags ls [] 10001 [] c.gas.toNat 0 0).1 with
   |error E=>
    rw[hr] at h1 h2
    have h3:=(Prod.mk.inj h1).2
    exact h2 (by rw[h3,e])
   |ok y=>
    rw[hr] at h1
    have h3:(0:Int)=RE0:=(Prod.mk.inj h1).2
    omega
  ·rename_i hm
   rw[if_neg hm] at h0
   simp only[Prod.mk.injEq] at h h0
   exact .inr (.inl ⟨zoH hck,h.1.2.symm,h.2.symm,h0.1.2.symm⟩)
section
variable {Q:Exit->Act->World->Prop} {o:Oper} {a:Act} {w:World} {K:Act->World->Prop}
theorem wp_fP1 {x:Operand} (b:Nat) (ho:o.op=.fieldAddr 33 x 1) (hx:a.eval x=.pointer (some ⟨b,0,none⟩)) (h:K (a.put o.dst (.pointer (some ⟨b,1,none⟩))) w):Oper.wp Tryz.prog o a w K Q:=by
 unfold Oper.wp execOp
 simp only[ho,hx]
 go_simp
 exact h
end
theorem zrN (A:Option Addr) (n c:Nat):Tryz.prog.built tHo [(0,.slice A n c)]=some [Value.slice A n c,.slice none 0 0,.slice none 0 0].toArray:=by kernel_rfl
theorem zlP (pd:List (BitVec 8)) (m:Nat) (hpd:pd.length=m) (c:Ca) (hc:c.Wf) (ags:List Nat) (rs:List (Nat × Int)) (hag:∀ a ∈ ags,a<2 ^ 256) (hrs:∀ p ∈ rs,p.1<2 ^ 256) (Ak Aa Ar:Option Addr) (ck ca cr0:Nat) (PL:List Value) (hPL:PL=.slice Ak m ck :: (c.cs (.slice Aa ags.length ca)++[.slice Ar rs.length cr0])) (w:World)
 (hk:Sin w 1 Ak m ck (vB pd)) (hkm:m<=maxLen/\m*1<=140737488355328) (ha:Sin w 4 Aa ags.length ca (fw ags)) (ham:ags.length<=maxLen/\ags.length*32<=140737488355328) (hr:Sin w 5 Ar rs.length cr0 (frs rs)) (hrm:rs.length<=maxLen/\rs.length*40<=140737488355328) :
 Calls Tryz.prog 4 #[.agg PL.toArray] w fun e w'=>e=.returned (.bool true)/\Below w.heap.size w w':=by
 obtain⟨RV,RE,Q,hmr⟩:∃ RV RE Q,zkW pd c ags rs=((RV,RE),Q):=⟨_,_,_,rfl⟩
 obtain⟨RV0,RE0,Q0,hmr0⟩:∃ RV RE Q,zkW pd c ags []=((RV,RE),Q):=⟨_,_,_,rfl⟩
 have hQa:=zgL pd c ags rs
 have hQa0:=zgL pd c ags []
 rw[hmr] at hQa
 rw[hmr0] at hQa0
 have five:∀ (m0:Nat) (g0:Int),(wq m0++[Value.int .i64 g0]).length=5/\(wq m0++[Value.int .i64 g0]).toArray.all (·.oneCell')=true:=fun m0 g0=>⟨by rw[List.length_append,zaV];rfl,by
  rw[<-Array.all_toList,List.all_append]
  have:=zbH m0
  rw[<-Array.all_toList] at this
  rw[this]
  rfl⟩
 have HRV:Hid (RV.length=5/\RV.toArray.all (·.oneCell')=true):=by
  obtain⟨m0,g0,h0⟩:=hQa.2
  have h0':RV=wq m0++[.int .i64 g0]:=h0
  rw[h0']
  exact five m0 g0
 have HRV0:Hid (RV0.length=5/\RV0.toArray.all (·.oneCell')=true):=by
  obtain⟨m0,g0,h0⟩:=hQa0.2
  have h0':RV0=wq m0++[.int .i64 g0]:=h0
  rw[h0']
  exact five m0 g0
 have HRVJ:Hid ((Tryz.prog.info? 35).map (·.size)=some RV.toArray.size):=by show _=_;rw[List.size_toArray,HRV.out.1];exact zaP
 have HRVI0:Hid ((Tryz.prog.info? 35).map (·.size)=some RV0.length):=by show _=_;rw[HRV0.out.1];exact zaP
 have HPLL:Hid (PL.length=50):=by show _=_;rw[hPL,List.length_cons,List.length_append,Ca.len hc];rfl
 have HPLI:Hid ((Tryz.prog.info? 33).map (·.size)=some PL.length):=by show _=_;rw[HPLL.out];kernel_rfl
 obtain⟨EC,hEC⟩:∃ E,E=ec pd:=⟨_,rfl⟩
 have HCASE:Hid _:=zqS pd c ags rs RV RV0 RE RE0 Q Q0 hmr hmr0
 rw[<-hEC] at HCASE
 have HCK:Hid (∀ W,Below w.heap.size w W->Calls Tryz.prog 10 #[.slice Ak m ck] W fun e w'=>e=.returned (.int .i64 EC)/\Below W.heap.size W w'):=fun W kk=>by
  rw[hEC]
  exact zjN Ak m ck pd hpd (by have:=hkm.1;unfold maxLen at this;omega) W (hk.be kk)
 obtain⟨nr,hnr⟩:∃ n,n=rs.length:=⟨_,rfl⟩
 obtain⟨L,hL⟩:∃ L,L=c.cs (.slice Aa ags.length ca):=⟨_,rfl⟩
 have HLL:Hid (L.length=48):=by show _=_;rw[hL];exact Ca.len hc _
 have HLI:Hid ((Tryz.prog.info? 30).map (·.size)=some L.length):=by show _=_;rw[HLL.out];exact zdR
 have HR0:Hid (∀ W,Below w.heap.size w W->Calls Tryz.prog 5 #[.slice Ak m ck,.agg L.toArray,.slice none 0 0] W fun e w'=>∃ A7 n7 c7,e=.returned (.tuple #[.agg RV0.toArray,.int .i64 RE0,.slice A7 n7 c7])/\Below W.heap.size W w'):=fun W kk=>by
  refine Calls.mono (zoZ pd m hpd c hc ags [] hag (fun p hp=>by cases hp) Ak Aa none ck ca 0 L hL RV0 RE0 Q0 hmr0 W (hk.be kk) (by have:=hkm.1;unfold maxLen at this;omega) (ha.be kk) (.inl ⟨rfl,rfl,fun _=>rfl⟩)) ?_
  rintro e w' ⟨A7,c7,rfl,_,q⟩
  exact⟨A7,_,c7,rfl,q⟩
 have HRUN0:Hid (∀ (hb NN8 cN8:Nat),m<=cN8->∀ W,Below w.heap.size w W->W.rangeAt NN8 0 (vB pd)->Hst W hb (.slice Ar nr cr0) (.slice none 0 0) (.slice none 0 0) rs [] []->Calls Tryz.prog 9 #[.slice (some ⟨NN8,0,none⟩) m cN8,.agg L.toArray,.iface 46 (.pointer (some ⟨hb,0,none⟩))] W fun e w'=>e=.returned (.tuple #[.agg RV.toArray,.int .i64 RE])/\∃ qv',Hst w' hb (.slice Ar nr cr0) qv' (.slice none 0 0) rs Q []/\Gro (·=hb) W w'):=fun hb NN8 cN8 h8 W kk rg hh=>
  zzH zjK pd m hpd (by have:=hkm.1;unfold maxLen at this;omega) c hc ags Aa ca NN8 cN8 hb h8 (.slice Ar nr cr0) (.slice none 0 0) rs L hL hag hrs RV RE Q hmr W (fun h=>fun X kx=>zrW ags ags.length rfl (by omega) Aa ca X (ha.be (kk.trans (kx.mono kk.size)))) rg hh
 have HRP:Hid (∀ (hb:Nat) (W:World),w.heap.size<=hb->Below w.heap.size w W->Rpl hb W (.slice Ar nr cr0) rs):=fun hb W hh kk=>by
  rw[hnr]
  rcases hr with ⟨h1,_,_⟩|⟨g,o,h1,h2,h3⟩
  ·exact .inl ⟨List.eq_nil_of_length_eq_zero h1,Ar,cr0,by rw[h1]⟩
  ·by_cases hn:rs=[]
   ·exact .inl ⟨hn,Ar,cr0,by rw[hn];rfl⟩
   ·refine .inr ⟨g,o,cr0,by rw[h1],?_,zaS h3 kk⟩
    have h5:(frs rs)[0]? ≠ none:=by
     rw[Ne,List.getElem?_eq_none_iff,h2]
     have:0<rs.length:=List.length_pos_iff.2 hn
     omega
    obtain⟨u,hu⟩:=Option.ne_none_iff_exists'.1 h5
    exact Nat.lt_of_lt_of_le (zoD (h3 0 u hu)) hh
 have HPL:Hid (PL=.slice Ak m ck :: (L++[.slice Ar nr cr0])):=by show _=_;rw[hL,hnr];exact hPL
 have HP0:Hid (PL[0]?=some (.slice Ak m ck)):=by show _=_;rw[HPL.out];rfl
 have HP49:Hid (PL[49]?=some (.slice Ar nr cr0)):=by show _=_;rw[HPL.out,show 49=48+1 by decide,List.getElem?_cons_succ,List.getElem?_append_right (by rw[HLL.out];decide),HLL.out];rfl
 have HPC:Hid (∀ (j:Nat) (v:Value),L[j]?=some v->PL[1+j]?=some v):=fun j v hj=>by
  rw[HPL.out,show 1+j=j+1 by omega,List.getElem?_cons_succ,List.getElem?_append_left (List.getElem?_eq_some_iff.1 hj).1]
  exact hj
 have HKM:Hid (m<=maxLen/\m*1<=140737488355328):=hkm
 have HKV:Hid (∀ W,Below w.heap.size w W->Sin W 1 Ak m ck (vB pd)):=fun W k=>hk.be k
 clear hk hkm ha ham hr hrm hag hrs hpd hPL hQa hQa0 hmr hmr0 hc hL hnr hEC five
 go_enter Tryz.func4,Tryz.ntmps4
 go_upto_region 1 with (refine zaF 33 rfl (.tmp 0) rfl PL rfl ?_;intro X1 (R1:Hid (Row X1 w.heap.size PL 33)) (B1:Hid (Below w.heap.size w X1)) q3;clear q3;simp only[Act.put,jA,jB,jC])
 obtain⟨b1,hbb1⟩:∃ b,b=w.heap.size:=⟨_,rfl⟩
 rw[<-hbb1] at R1
 rw[<-hbb1]
 clear hbb1
 have hb1:=B1.out
 have rp:=R1.out
 have HXW:Hid (w.heap.size<=X1.heap.size):=hb1.size
 have l1:b1<X1.heap.size:=rp.lt
 clear B1 R1
 refine zeB fun a0 ha0=>?_
 have hsz:a0.tmps.size=75:=by rw[ha0];rfl
 have zs1:a0.eval (.tmp 1)=.pointer (some ⟨b1,0,none⟩):=by rw[ha0];rfl
 obtain⟨D,hD⟩:∃ D:List (Tmp × SP),D=[(12,SP.any),(13,SP.is (.pointer (some ⟨b1,0,none⟩))),(14,SP.is (.slice Ak m ck)),(15,SP.any),(16,SP.is (.pointer (some ⟨b1,1,none⟩))),(17,SP.is (.agg L.toArray)),(18,SP.is (.tuple #[.agg zR.toArray,.int .i64 1])),(11,SP.is (.tuple #[.agg zR.toArray,.int .i64 1])),(19,SP.is (.agg zR.toArray)),(20,SP.is (.int .i64 1)),(3,SP.any),(1000,SP.any),(4,SP.is (.int .i64 1))]:=⟨_,rfl⟩
 refine zbV (by kernel_rfl) (fun listed ac W=>∃ NN:Nat,listed.size=13/\Fp D a0 listed ac W/\Below w.heap.size w W/\X1.heap.size<=W.heap.size/\Row W b1 PL 33/\(listed.getD 10 false=true->ac.eval (.tmp 3)=.pointer (some ⟨NN,0,none⟩)/\X1.heap.size<=NN/\Row W NN (if listed.getD 11 false=true then zR else zR) 35)/\(listed.getD 0 false=true->¬ listed.getD 3 false=true->(SP.new 0 0 [] 5).P W (ac.eval (.tmp 12)))/\(listed.getD 3 false=true->¬ listed.getD 6 false=true->(SP.byd m pd).P W (ac.eval (.tmp 15)))) ?_ ?_ ?_
 ·exact⟨0,by simp,Fp.start D a0 _ _,Below.drew hb1,Nat.le_refl _,Row.drew rp,(fun h=>(zbK h).elim),(fun h _=>(zbK h).elim),(fun h _=>(zbK h).elim)⟩
 ·clear ha0 hb1 rp
  intro listed ac W k hI hdn hk
  obtain⟨NN,hl,hF,hb1,hszW,rp,hal,ti0,ti3⟩:=hI
  have hk1:k<13:=List.mem_range.1 (List.mem_filter.1 hk).1
  have hl2:∀ j,(listed.setIfInBounds j true).size=13:=fun j=>by rw[Array.size_setIfInBounds];exact hl
  rcases (show k=0\/k=1\/k=2\/k=3\/k=4\/k=5\/k=6\/k=7\/k=8\/k=9\/k=10\/k=11\/k=12 by omega) with rfl|rfl|rfl|rfl|rfl|rfl|rfl|rfl|rfl|rfl|rfl|rfl|rfl
  ·have hk3:=hk
   refine zaE rfl rfl (zgS rfl ?_)
   intro W2 q hB
   exact⟨NN,hl2 0,((hF.world hB).put 0 12 (SP.any) (.slice (some ⟨W.heap.size,0,none⟩) 0 0) (by rw[hD];rfl) trivial (by rw[hD];rfl) (by rw[hsz];decide) (by rw[hl];decide)),hb1.trans (hB.mono hb1.size),Nat.le_trans hszW hB.size,Row.below rp hB (Row.lt rp),(fun h=>⟨(zaB ac _ (by decide)).trans (hal (by rwa [zaA _ _ _ (by decide)] at h)).1,(hal (by rwa [zaA _ _ _ (by decide)] at h)).2.1,by rw[zaA _ _ _ (by decide)];exact Row.below ((hal (by rwa [zaA _ _ _ (by decide)] at h)).2.2) hB (Row.lt ((hal (by rwa [zaA _ _ _ (by decide)] at h)).2.2))⟩),(fun _ _=>by change (SP.new 0 0 [] 5).P _ ((ac.put (some 12) _).eval (.tmp 12));rw[zaR ac _ (by rw[hF.size,hsz];decide)];exact⟨_,rfl,q⟩),(fun h1 h2=>by change (SP.byd m pd).P _ ((ac.put (some 12) _).eval (.tmp 15));rw[zaB ac _ (by decide)];exact (SP.byd m pd).st _ _ _ hB (ti3 (by rwa [zaA _ _ _ (by decide)] at h1) (by rwa [zaA _ _ _ (by decide)] at h2)))⟩
  ·have hk3:=hk
   have e1:=((hF.keep 1 (by rw[hD];rfl)).trans zs1)
   exact zaE rfl rfl (zpS b1 rfl e1 ⟨NN,hl2 1,(hF.put 1 13 (SP.is (.pointer (some ⟨b1,0,none⟩))) (.pointer (some ⟨b1,0,none⟩)) (by rw[hD];rfl) rfl (by rw[hD];rfl) (by rw[hsz];decide) (by rw[hl];decide)),hb1,hszW,rp,(fun h=>⟨(zaB ac _ (by decide)).trans (hal (by rwa [zaA _ _ _ (by decide)] at h)).1,(hal (by rwa [zaA _ _ _ (by decide)] at h)).2.1,by rw[zaA _ _ _ (by decide)];exact (hal (by rwa [zaA _ _ _ (by decide)] at h)).2.2⟩),(fun h1 h2=>by change (SP.new 0 0 [] 5).P _ ((ac.put (some 13) _).eval (.tmp 12));rw[zaB ac _ (by decide)];exact ti0 (by rwa [zaA _ _ _ (by decide)] at h1) (by rwa [zaA _ _ _ (by decide)] at h2)),(fun h1 h2=>by change (SP.byd m pd).P _ ((ac.put (some 13) _).eval (.tmp 15));rw[zaB ac _ (by decide)];exact ti3 (by rwa [zaA _ _ _ (by decide)] at h1) (by rwa [zaA _ _ _ (by decide)] at h2))⟩)
  ·have hk3:=hk
   have e28:=(hF.done 1 (13,SP.is (.pointer (some ⟨b1,0,none⟩))) (by rw[hD];rfl) (zaI hk 1 (by kernel_rfl)))
   exact zaE rfl rfl (zhQ rfl b1 0 e28 Ak m ck (rp.cell 0 _ HP0.out) ⟨NN,hl2 2,(hF.put 2 14 (SP.is (.slice Ak m ck)) (.slice Ak m ck) (by rw[hD];rfl) rfl (by rw[hD];rfl) (by rw[hsz];decide) (by rw[hl];decide)),hb1,hszW,rp,(fun h=>⟨(zaB ac _ (by decide)).trans (hal (by rwa [zaA _ _ _ (by decide)] at h)).1,(hal (by rwa [zaA _ _ _ (by decide)] at h)).2.1,by rw[zaA _ _ _ (by decide)];exact (hal (by rwa [zaA _ _ _ (by decide)] at h)).2.2⟩),(fun h1 h2=>by change (SP.new 0 0 [] 5).P _ ((ac.put (some 14) _).eval (.tmp 12));rw[zaB ac _ (by decide)];exact ti0 (by rwa [zaA _ _ _ (by decide)] at h1) (by rwa [zaA _ _ _ (by decide)] at h2)),(fun h1 h2=>by change (SP.byd m pd).P _ ((ac.put (some 14) _).eval (.tmp 15));rw[zaB ac _ (by decide)];exact ti3 (by rwa [zaA _ _ _ (by decide)] at h1) (by rwa [zaA _ _ _ (by decide)] at h2))⟩)
  ·have hk3:=hk
   obtain⟨N7,e27,r27⟩:=(ti0 (zaI hk 0 (by kernel_rfl)) (zbD hk))
   have e29:=(hF.done 2 (14,SP.is (.slice Ak m ck)) (by rw[hD];rfl) (zaI hk 2 (by kernel_rfl)))
   refine zaE rfl rfl (znV 22 5 1 1 Tryz.underlying22 zeN (by decide) (.tmp 12) (.tmp 14) rfl N7 e27 r27 Ak m ck (vB pd) e29 (HKV.out W hb1) (zvG pd) HKM.out.1 HKM.out.2 ?_)
   intro g9 c9 W2 l9 n9 hB
   exact⟨NN,hl2 3,((hF.world hB).put 3 15 (SP.any) (.slice (some ⟨g9,0,none⟩) m c9) (by rw[hD];rfl) trivial (by rw[hD];rfl) (by rw[hsz];decide) (by rw[hl];decide)),hb1.trans (hB.mono hb1.size),Nat.le_trans hszW hB.size,Row.below rp hB (Row.lt rp),(fun h=>⟨(zaB ac _ (by decide)).trans (hal (by rwa [zaA _ _ _ (by decide)] at h)).1,(hal (by rwa [zaA _ _ _ (by decide)] at h)).2.1,by rw[zaA _ _ _ (by decide)];exact Row.below ((hal (by rwa [zaA _ _ _ (by decide)] at h)).2.2) hB (Row.lt ((hal (by rwa [zaA _ _ _ (by decide)] at h)).2.2))⟩),(fun _ h=>absurd (zbC (by rw[hl];decide)) h),(fun _ _=>by change (SP.byd m pd).P _ ((ac.put (some 15) _).eval (.tmp 15));rw[zaR ac _ (by rw[hF.size,hsz];decide)];exact⟨g9,c9,rfl,n9,Lw.range l9⟩)⟩
  ·have hk3:=hk
   have e1:=((hF.keep 1 (by rw[hD];rfl)).trans zs1)
   exact zaE rfl rfl (wp_fP1 b1 rfl e1 ⟨NN,hl2 4,(hF.put 4 16 (SP.is (.pointer (some ⟨b1,1,none⟩))) (.pointer (some ⟨b1,1,none⟩)) (by rw[hD];rfl) rfl (by rw[hD];rfl) (by rw[hsz];decide) (by rw[hl];decide)),hb1,hszW,rp,(fun h=>⟨(zaB ac _ (by decide)).trans (hal (by rwa [zaA _ _ _ (by decide)] at h)).1,(hal (by rwa [zaA _ _ _ (by decide)] at h)).2.1,by rw[zaA _ _ _ (by decide)];exact (hal (by rwa [zaA _ _ _ (by decide)] at h)).2.2⟩),(fun h1 h2=>by change (SP.new 0 0 [] 5).P _ ((ac.put (some 16) _).eval (.tmp 12));rw[zaB ac _ (by decide)];exact ti0 (by rwa [zaA _ _ _ (by decide)] at h1) (by rwa [zaA _ _ _ (by decide)] at h2)),(fun h1 h2=>by change (SP.byd m pd).P _ ((ac.put (some 16) _).eval (.tmp 15));rw[zaB ac _ (by decide)];exact ti3 (by rwa [zaA _ _ _ (by decide)] at h1) (by rwa [zaA _ _ _ (by decide)] at h2))⟩)
  ·have hk3:=hk
   have e31:=(hF.done 4 (16,SP.is (.pointer (some ⟨b1,1,none⟩))) (by rw[hD];rfl) (zaI hk 4 (by kernel_rfl)))
   exact zaE rfl rfl (wp_load_mid 30 (.tmp 16) rfl b1 1 e31 L _ (rp.range 1 L (fun j v hj=>HPC.out j v hj)) Tryz.underlying30 rfl HLI.out ⟨NN,hl2 5,(hF.put 5 17 (SP.is (.agg L.toArray)) (.agg L.toArray) (by rw[hD];rfl) rfl (by rw[hD];rfl) (by rw[hsz];decide) (by rw[hl];decide)),hb1,hszW,rp,(fun h=>⟨(zaB ac _ (by decide)).trans (hal (by rwa [zaA _ _ _ (by decide)] at h)).1,(hal (by rwa [zaA _ _ _ (by decide)] at h)).2.1,by rw[zaA _ _ _ (by decide)];exact (hal (by rwa [zaA _ _ _ (by decide)] at h)).2.2⟩),(fun h1 h2=>by change (SP.new 0 0 [] 5).P _ ((ac.put (some 17) _).eval (.tmp 12));rw[zaB ac _ (by decide)];exact ti0 (by rwa [zaA _ _ _ (by decide)] at h1) (by rwa [zaA _ _ _ (by decide)] at h2)),(fun h1 h2=>by change (SP.byd m pd).P _ ((ac.put (some 17) _).eval (.tmp 15));rw[zaB ac _ (by decide)];exact ti3 (by rwa [zaA _ _ _ (by decide)] at h1) (by rwa [zaA _ _ _ (by decide)] at h2))⟩)
  ·have hk3:=hk
   obtain⟨NN8,cN8,e30,h8,r30⟩:=(ti3 (zaI hk 3 (by kernel_rfl)) (zbD hk))
   have e32:=(hF.done 5 (17,SP.is (.agg L.toArray)) (by rw[hD];rfl) (zaI hk 5 (by kernel_rfl)))
   refine zaE rfl rfl (zfM 9 #[.slice (some ⟨NN8,0,none⟩) m cN8,.agg L.toArray,.nilIface] rfl rfl (by show [ac.eval (.tmp 15),ac.eval (.tmp 17),Value.nilIface]=_;rw[show ac.eval (.tmp 15)=_ from e30,show ac.eval (.tmp 17)=_ from e32]) (by go_simp) ((run_nil (.slice (some ⟨NN8,0,none⟩) m cN8) L W).mono ?_))
   rintro e W2 ⟨rfl,hB⟩
   exact⟨_,rfl,NN,hl2 6,((hF.world hB).put 6 18 (SP.is (.tuple #[.agg zR.toArray,.int .i64 1])) (.tuple #[.agg zR.toArray,.int .i64 1]) (by rw[hD];rfl) rfl (by rw[hD];rfl) (by rw[hsz];decide) (by rw[hl];decide)),hb1.trans (hB.mono hb1.size),Nat.le_trans hszW hB.size,Row.below rp hB (Row.lt rp),(fun h=>⟨(zaB ac _ (by decide)).trans (hal (by rwa [zaA _ _ _ (by decide)] at h)).1,(hal (by rwa [zaA _ _ _ (by decide)] at h)).2.1,by rw[zaA _ _ _ (by decide)];exact Row.below ((hal (by rwa [zaA _ _ _ (by decide)] at h)).2.2) hB (Row.lt ((hal (by rwa [zaA _ _ _ (by decide)] at h)).2.2))⟩),(fun h1 h2=>by change (SP.new 0 0 [] 5).P _ ((ac.put (some 18) _).eval (.tmp 12));rw[zaB ac _ (by decide)];exact (SP.new 0 0 [] 5).st _ _ _ hB (ti0 (by rwa [zaA _ _ _ (by decide)] at h1) (by rwa [zaA _ _ _ (by decide)] at h2))),(fun _ h=>absurd (zbC (by rw[hl];decide)) h)⟩
  ·have hk3:=hk
   exact zaE rfl rfl (zbJ (ac.eval (.tmp 18)) rfl rfl ⟨NN,hl2 7,(hF.put 7 11 (SP.is (.tuple #[.agg zR.toArray,.int .i64 1])) (ac.eval (.tmp 18)) (by rw[hD];rfl) ((hF.done 6 (18,SP.is (.tuple #[.agg zR.toArray,.int .i64 1])) (by rw[hD];rfl) (zaI hk 6 (by kernel_rfl)))) (by rw[hD];rfl) (by rw[hsz];decide) (by rw[hl];decide)),hb1,hszW,rp,(fun h=>⟨(zaB ac _ (by decide)).trans (hal (by rwa [zaA _ _ _ (by decide)] at h)).1,(hal (by rwa [zaA _ _ _ (by decide)] at h)).2.1,by rw[zaA _ _ _ (by decide)];exact (hal (by rwa [zaA _ _ _ (by decide)] at h)).2.2⟩),(fun h1 h2=>by change (SP.new 0 0 [] 5).P _ ((ac.put (some 11) _).eval (.tmp 12));rw[zaB ac _ (by decide)];exact ti0 (by rwa [zaA _ _ _ (by decide)] at h1) (by rwa [zaA _ _ _ (by decide)] at h2)),(fun h1 h2=>by change (SP.byd m pd).P _ ((ac.put (some 11) _).eval (.tmp 15));rw[zaB ac _ (by decide)];exact ti3 (by rwa [zaA _ _ _ (by decide)] at h1) (by rwa [zaA _ _ _ (by decide)] at h2))⟩)
  ·have hk3:=hk
   exact zaE rfl rfl (zbZ (.tmp 11) 0 rfl _ (hF.done 7 (11,SP.is (.tuple #[.agg zR.toArray,.int .i64 1])) (by rw[hD];rfl) (zaI hk 7 (by kernel_rfl))) _ rfl ⟨NN,hl2 8,(hF.put 8 19 (SP.is (.agg zR.toArray)) (_) (by rw[hD];rfl) rfl (by rw[hD];rfl) (by rw[hsz];decide) (by rw[hl];decide)),hb1,hszW,rp,(fun h=>⟨(zaB ac _ (by decide)).trans (hal (by rwa [zaA _ _ _ (by decide)] at h)).1,(hal (by rwa [zaA _ _ _ (by decide)] at h)).2.1,by rw[zaA _ _ _ (by decide)];exact (hal (by rwa [zaA _ _ _ (by decide)] at h)).2.2⟩),(fun h1 h2=>by change (SP.new 0 0 [] 5).P _ ((ac.put (some 19) _).eval (.tmp 12));rw[zaB ac _ (by decide)];exact ti0 (by rwa [zaA _ _ _ (by decide)] at h1) (by rwa [zaA _ _ _ (by decide)] at h2)),(fun h1 h2=>by change (SP.byd m pd).P _ ((ac.put (some 19) _).eval (.tmp 15));rw[zaB ac _ (by decide)];exact ti3 (by rwa [zaA _ _ _ (by decide)] at h1) (by rwa [zaA _ _ _ (by decide)] at h2))⟩)
  ·have hk3:=hk
   exact zaE rfl rfl (zbZ (.tmp 11) 1 rfl _ (hF.done 7 (11,SP.is (.tuple #[.agg zR.toArray,.int .i64 1])) (by rw[hD];rfl) (zaI hk 7 (by kernel_rfl))) _ rfl ⟨NN,hl2 9,(hF.put 9 20 (SP.is (.int .i64 1)) (_) (by rw[hD];rfl) rfl (by rw[hD];rfl) (by rw[hsz];decide) (by rw[hl];decide)),hb1,hszW,rp,(fun h=>⟨(zaB ac _ (by decide)).trans (hal (by rwa [zaA _ _ _ (by decide)] at h)).1,(hal (by rwa [zaA _ _ _ (by decide)] at h)).2.1,by rw[zaA _ _ _ (by decide)];exact (hal (by rwa [zaA _ _ _ (by decide)] at h)).2.2⟩),(fun h1 h2=>by change (SP.new 0 0 [] 5).P _ ((ac.put (some 20) _).eval (.tmp 12));rw[zaB ac _ (by decide)];exact ti0 (by rwa [zaA _ _ _ (by decide)] at h1) (by rwa [zaA _ _ _ (by decide)] at h2)),(fun h1 h2=>by change (SP.byd m pd).P _ ((ac.put (some 20) _).eval (.tmp 15));rw[zaB ac _ (by decide)];exact ti3 (by rwa [zaA _ _ _ (by decide)] at h1) (by rwa [zaA _ _ _ (by decide)] at h2))⟩)
  ·have hk3:=hk
   have hB:Below W.heap.size W (W.alloc (Obj.cells zR.toArray 35)):=(Below.refl _ _).alloc (Nat.le_refl _) _
   have hns:¬ listed.getD 11 false=true:=fun h=>zbD hk (hdn 11 h 10 (by kernel_rfl))
   exact zaE rfl rfl (zfL rfl ⟨W.heap.size,hl2 10,((hF.world hB).put 10 3 (SP.any) (.pointer (some ⟨W.heap.size,0,none⟩)) (by rw[hD];rfl) trivial (by rw[hD];rfl) (by rw[hsz];decide) (by rw[hl];decide)),hb1.trans (hB.mono hb1.size),Nat.le_trans hszW hB.size,Row.below rp hB (Row.lt rp),(fun _=>⟨zaR ac _ (by rw[hF.size,hsz];decide),hszW,by rw[zaA _ _ _ (by decide),if_neg hns];exact Row.new' rfl rfl⟩),(fun h1 h2=>by change (SP.new 0 0 [] 5).P _ ((ac.put (some 3) _).eval (.tmp 12));rw[zaB ac _ (by decide)];exact (SP.new 0 0 [] 5).st _ _ _ hB (ti0 (by rwa [zaA _ _ _ (by decide)] at h1) (by rwa [zaA _ _ _ (by decide)] at h2))),(fun h1 h2=>by change (SP.byd m pd).P _ ((ac.put (some 3) _).eval (.tmp 15));rw[zaB ac _ (by decide)];exact (SP.byd m pd).st _ _ _ hB (ti3 (by rwa [zaA _ _ _ (by decide)] at h1) (by rwa [zaA _ _ _ (by decide)] at h2)))⟩)
  ·have hk3:=hk
   have hal0:=hal (zaI hk 10 (by kernel_rfl))
   obtain⟨e1,m1,y2⟩:=hal0
   rw[if_neg (zbD hk)] at y2
   have T:=y2.there 0 zR.toArray.size (Nat.le_refl _)
   have fin:=y2.over (vs:=zR) rfl
   have hcd:=hdn 7 (hdn 8 (zaI hk 8 (by kernel_rfl)) 7 (by kernel_rfl)) 6 (by kernel_rfl)
   have hG:Gro (·=NN) W (W.setCells NN 0 zR):=zbB NN _ 0 W W (Gro.refl _ W)
   have hT:Fp D a0 listed ac (W.setCells NN 0 zR):=hF.turn (by rw[hD];simp only[List.forall_mem_cons,List.not_mem_nil,false_implies,implies_true,and_true];exact⟨fun _ h=>h,fun _ h=>h,fun _ h=>h,fun _ h=>h,fun _ h=>h,fun _ h=>h,fun _ h=>h,fun _ h=>h,fun _ h=>h,fun _ h=>h,fun _ h=>h,fun _ h=>h,fun _ h=>h⟩)
   have hnX:w.heap.size<=X1.heap.size:=HXW.out
   exact zaE rfl rfl (wp_store_mid 35 (.tmp 3) (.tmp 19) rfl NN 0 zR.toArray e1 (hF.done 8 (19,SP.is (.agg zR.toArray)) (by rw[hD];rfl) (zaI hk 8 (by kernel_rfl))) T zaP zcW ⟨NN,hl2 11,(hT.skip 11 1000 (by rw[hD];rfl) (by rw[hl];decide)),zaC hb1 (by omega) _,(by rw[zdJ];exact hszW),hG.row rp (by omega),(fun _=>⟨e1,m1,by rw[if_pos (zbC (by rw[hl];decide))];exact fin⟩),(fun _ h2=>absurd (by rw[zaA _ _ _ (by decide)];exact hdn 6 hcd 3 (by kernel_rfl)) h2),(fun _ h2=>absurd (by rw[zaA _ _ _ (by decide)];exact hcd) h2)⟩)
  ·have hk3:=hk
   exact zaE rfl rfl (zeT (ac.eval (.tmp 20)) rfl rfl ⟨NN,hl2 12,(hF.put 12 4 (SP.is (.int .i64 1)) (ac.eval (.tmp 20)) (by rw[hD];rfl) ((hF.done 9 (20,SP.is (.int .i64 1)) (by rw[hD];rfl) (zaI hk 9 (by kernel_rfl)))) (by rw[hD];rfl) (by rw[hsz];decide) (by rw[hl];decide)),hb1,hszW,rp,(fun h=>⟨(zaB ac _ (by decide)).trans (hal (by rwa [zaA _ _ _ (by decide)] at h)).1,(hal (by rwa [zaA _ _ _ (by decide)] at h)).2.1,by rw[zaA _ _ _ (by decide)];exact (hal (by rwa [zaA _ _ _ (by decide)] at h)).2.2⟩),(fun h1 h2=>by change (SP.new 0 0 [] 5).P _ ((ac.put (some 4) _).eval (.tmp 12));rw[zaB ac _ (by decide)];exact ti0 (by rwa [zaA _ _ _ (by decide)] at h1) (by rwa [zaA _ _ _ (by decide)] at h2)),(fun h1 h2=>by change (SP.byd m pd).P _ ((ac.put (some 4) _).eval (.tmp 15));rw[zaB ac _ (by decide)];exact ti3 (by rwa [zaA _ _ _ (by decide)] at h1) (by rwa [zaA _ _ _ (by decide)] at h2))⟩)
 ·clear hb1 rp
  intro listed ac W hI hr
  obtain⟨NN,hl,hF,hb1,hszW,rp,hal,ti0,ti3⟩:=hI
  have hall:=zcL (by kernel_rfl) hl hr
  obtain⟨ea3,mN,rN⟩:=hal (hall 10 (by decide))
  rw[if_pos (hall 11 (by decide))] at rN
  obtain⟨x12,h12⟩:∃ x,ac.eval (.tmp 12)=x:=⟨_,rfl⟩
  have h13:ac.eval (.tmp 13)=.pointer (some ⟨b1,0,none⟩):=hF.done 1 (13,SP.is (.pointer (some ⟨b1,0,none⟩))) (by rw[hD];rfl) (hall 1 (by decide))
  have h14:ac.eval (.tmp 14)=.slice Ak m ck:=hF.done 2 (14,SP.is (.slice Ak m ck)) (by rw[hD];rfl) (hall 2 (by decide))
  obtain⟨x15,h15⟩:∃ x,ac.eval (.tmp 15)=x:=⟨_,rfl⟩
  have h16:ac.eval (.tmp 16)=.pointer (some ⟨b1,1,none⟩):=hF.done 4 (16,SP.is (.pointer (some ⟨b1,1,none⟩))) (by rw[hD];rfl) (hall 4 (by decide))
  have h17:ac.eval (.tmp 17)=.agg L.toArray:=hF.done 5 (17,SP.is (.agg L.toArray)) (by rw[hD];rfl) (hall 5 (by decide))
  have h18:ac.eval (.tmp 18)=.tuple #[.agg zR.toArray,.int .i64 1]:=hF.done 6 (18,SP.is (.tuple #[.agg zR.toArray,.int .i64 1])) (by rw[hD];rfl) (hall 6 (by decide))
  have h11:ac.eval (.tmp 11)=.tuple #[.agg zR.toArray,.int .i64 1]:=hF.done 7 (11,SP.is (.tuple #[.agg zR.toArray,.int .i64 1])) (by rw[hD];rfl) (hall 7 (by decide))
  have h19:ac.eval (.tmp 19)=.agg zR.toArray:=hF.done 8 (19,SP.is (.agg zR.toArray)) (by rw[hD];rfl) (hall 8 (by decide))
  have h20:ac.eval (.tmp 20)=.int .i64 1:=hF.done 9 (20,SP.is (.int .i64 1)) (by rw[hD];rfl) (hall 9 (by decide))
  have h4:ac.eval (.tmp 4)=.int .i64 1:=hF.done 12 (4,SP.is (.int .i64 1)) (by rw[hD];rfl) (hall 12 (by decide))
  have ea:=hF.lay [(12,x12),(13,.pointer (some ⟨b1,0,none⟩)),(14,.slice Ak m ck),(15,x15),(16,.pointer (some ⟨b1,1,none⟩)),(17,.agg L.toArray),(18,.tuple #[.agg zR.toArray,.int .i64 1]),(11,.tuple #[.agg zR.toArray,.int .i64 1]),(19,.agg zR.toArray),(20,.int .i64 1),(3,.pointer (some ⟨NN,0,none⟩)),(4,.int .i64 1)] (by rw[hD,hsz];rfl) (by simp only[List.forall_mem_cons,List.not_mem_nil,false_implies,implies_true,and_true];exact⟨h12,h13,h14,h15,h16,h17,h18,h11,h19,h20,ea3,h4⟩)
  rw[ha0] at ea
  simp only[List.foldl_cons,List.foldl_nil,jA,jB,jC] at ea
  clear hF hall hr hl hD hal ti0 ti3 zs1 ha0 hsz h12 h13 h14 h15 h16 h17 h18 h11 h19 h20 ea3 h4
  subst ea
  clear l1 mN rN hszW HXW
  have BA:Hid (Below w.heap.size w W):=hb1
  have RA:Hid (Row W b1 PL 33):=rp
  have c49:W.cell? ⟨b1,49,none⟩=some (.slice Ar nr cr0):=rp.cell 49 _ HP49.out
  clear hb1 rp
  go_upto_region 5 with (first
   |(refine zbU rfl tHo _ rfl [(0,.slice Ar nr cr0)] rfl _ (zrN Ar nr cr0) ?_;simp only[Act.put,jA,jB,jC])
   |(refine zaF tHo rfl (.tmp 25) rfl [.slice Ar nr cr0,.slice none 0 0,.slice none 0 0] rfl ?_;intro X (RH:Hid (Row X W.heap.size [.slice Ar nr cr0,.slice none 0 0,.slice none 0 0] tHo)) (BH:Hid (Below W.heap.size W X)) q3;clear q3;simp only[Act.put,jA,jB,jC]))
  obtain⟨hb,hhb⟩:∃ b,b=W.heap.size:=⟨_,rfl⟩
  rw[<-hhb] at RH
  rw[<-hhb]
  have HHB:Hid (w.heap.size<=hb):=by show _<=_;rw[hhb];exact BA.out.size
  have hb1:Below w.heap.size w X:=BA.out.trans (BH.out.mono BA.out.size)
  have rp:Row X b1 PL 33:=Row.below RA.out BH.out RA.out.lt
  have hpre:Hst X hb (.slice Ar nr cr0) (.slice none 0 0) (.slice none 0 0) rs [] []:=⟨RH.out,HRP.out hb X HHB.out hb1,Lw.nil _ _ _,.inl ⟨rfl,none,0,rfl⟩,fun g e=>by cases e⟩
  have HRUN:Hid _:=HRUN0.out hb
  have HXW:Hid (w.heap.size<=X.heap.size):=hb1.size
  have l1:b1<X.heap.size:=rp.lt
  have lh:hb<X.heap.size:=hpre.row.lt
  clear hhb RH BH BA RA c49 HRUN0 HRP D a0
  refine zeB fun a0 ha0=>?_
  have hsz:a0.tmps.size=75:=by rw[ha0];rfl
  have zs1:a0.eval (.tmp 1)=.pointer (some ⟨b1,0,none⟩):=by rw[ha0];rfl
  have zs5:a0.eval (.tmp 5)=.pointer (some ⟨hb,0,none⟩):=by rw[ha0];rfl
  obtain⟨D,hD⟩:∃ D:List (Tmp × SP),D=[(28,SP.any),(29,SP.is (.pointer (some ⟨b1,0,none⟩))),(30,SP.is (.slice Ak m ck)),(31,SP.any),(32,SP.is (.pointer (some ⟨b1,1,none⟩))),(33,SP.is (.agg L.toArray)),(34,SP.is (.pointer (some ⟨hb,0,none⟩))),(35,SP.is (.iface 46 (.pointer (some ⟨hb,0,none⟩)))),(36,SP.is (.tuple #[.agg RV.toArray,.int .i64 RE])),(27,SP.is (.tuple #[.agg RV.toArray,.int .i64 RE])),(37,SP.is (.agg RV.toArray)),(38,SP.is (.int .i64 RE)),(6,SP.any),(1000,SP.any),(7,SP.is (.int .i64 RE))]:=⟨_,rfl⟩
  refine zbV (by kernel_rfl) (fun listed ac W=>∃ NN:Nat,listed.size=15/\Fp D a0 listed ac W/\Below w.heap.size w W/\X.heap.size<=W.heap.size/\Row W b1 PL 33/\(¬ listed.getD 8 false=true->Hst W hb (.slice Ar nr cr0) (.slice none 0 0) (.slice none 0 0) rs [] [])/\(listed.getD 8 false=true->∃ qv',Hst W hb (.slice Ar nr cr0) qv' (.slice none 0 0) rs Q [])/\(listed.getD 12 false=true->ac.eval (.tmp 6)=.pointer (some ⟨NN,0,none⟩)/\X.heap.size<=NN/\Row W NN (if listed.getD 13 false=true then RV else zR) 35)/\(listed.getD 0 false=true->¬ listed.getD 3 false=true->(SP.new 0 0 [] 5).P W (ac.eval (.tmp 28)))/\(listed.getD 3 false=true->¬ listed.getD 8 false=true->(SP.byd m pd).P W (ac.eval (.tmp 31)))) ?_ ?_ ?_
  ·exact⟨0,by simp,Fp.start D a0 _ _,Below.drew hb1,Nat.le_refl _,Row.drew rp,(fun _=>hpre.below (Below.drew (Below.refl _ _))),(fun h=>(zbK h).elim),(fun h=>(zbK h).elim),(fun h _=>(zbK h).elim),(fun h _=>(zbK h).elim)⟩
  ·clear ha0 hb1 rp hpre
   intro listed ac W k hI hdn hk
   obtain⟨NN,hl,hF,hb1,hszW,rp,hpre,hpost,hal,ti0,ti3⟩:=hI
   have hk1:k<15:=List.mem_range.1 (List.mem_filter.1 hk).1
   have hl2:∀ j,(listed.setIfInBounds j true).size=15:=fun j=>by rw[Array.size_setIfInBounds];exact hl
   rcases (show k=0\/k=1\/k=2\/k=3\/k=4\/k=5\/k=6\/k=7\/k=8\/k=9\/k=10\/k=11\/k=12\/k=13\/k=14 by omega) with rfl|rfl|rfl|rfl|rfl|rfl|rfl|rfl|rfl|rfl|rfl|rfl|rfl|rfl|rfl
   ·have hk3:=hk
    refine zaE rfl rfl (zgS rfl ?_)
    intro W2 q hB
    exact⟨NN,hl2 0,((hF.world hB).put 0 28 (SP.any) (.slice (some ⟨W.heap.size,0,none⟩) 0 0) (by rw[hD];rfl) trivial (by rw[hD];rfl) (by rw[hsz];decide) (by rw[hl];decide)),hb1.trans (hB.mono hb1.size),Nat.le_trans hszW hB.size,Row.below rp hB (Row.lt rp),(fun h=>(hpre (by rwa [zaA _ _ _ (by decide)] at h)).below hB),(fun h=>by obtain⟨qv9,z9⟩:=hpost (by rwa [zaA _ _ _ (by decide)] at h);exact⟨qv9,z9.below hB⟩),(fun h=>⟨(zaB ac _ (by decide)).trans (hal (by rwa [zaA _ _ _ (by decide)] at h)).1,(hal (by rwa [zaA _ _ _ (by decide)] at h)).2.1,by rw[zaA _ _ _ (by decide)];exact Row.below ((hal (by rwa [zaA _ _ _ (by decide)] at h)).2.2) hB (Row.lt ((hal (by rwa [zaA _ _ _ (by decide)] at h)).2.2))⟩),(fun _ _=>by change (SP.new 0 0 [] 5).P _ ((ac.put (some 28) _).eval (.tmp 28));rw[zaR ac _ (by rw[hF.size,hsz];decide)];exact⟨_,rfl,q⟩),(fun h1 h2=>by change (SP.byd m pd).P _ ((ac.put (some 28) _).eval (.tmp 31));rw[zaB ac _ (by decide)];exact (SP.byd m pd).st _ _ _ hB (ti3 (by rwa [zaA _ _ _ (by decide)] at h1) (by rwa [zaA _ _ _ (by decide)] at h2)))⟩
   ·have hk3:=hk
    have e1:=((hF.keep 1 (by rw[hD];rfl)).trans zs1)
    exact zaE rfl rfl (zpS b1 rfl e1 ⟨NN,hl2 1,(hF.put 1 29 (SP.is (.pointer (some ⟨b1,0,none⟩))) (.pointer (some ⟨b1,0,none⟩)) (by rw[hD];rfl) rfl (by rw[hD];rfl) (by rw[hsz];decide) (by rw[hl];decide)),hb1,hszW,rp,(fun h=>hpre (by rwa [zaA _ _ _ (by decide)] at h)),(fun h=>hpost (by rwa [zaA _ _ _ (by decide)] at h)),(fun h=>⟨(zaB ac _ (by decide)).trans (hal (by rwa [zaA _ _ _ (by decide)] at h)).1,(hal (by rwa [zaA _ _ _ (by decide)] at h)).2.1,by rw[zaA _ _ _ (by decide)];exact (hal (by rwa [zaA _ _ _ (by decide)] at h)).2.2⟩),(fun h1 h2=>by change (SP.new 0 0 [] 5).P _ ((ac.put (some 29) _).eval (.tmp 28));rw[zaB ac _ (by decide)];exact ti0 (by rwa [zaA _ _ _ (by decide)] at h1) (by rwa [zaA _ _ _ (by decide)] at h2)),(fun h1 h2=>by change (SP.byd m pd).P _ ((ac.put (some 29) _).eval (.tmp 31));rw[zaB ac _ (by decide)];exact ti3 (by rwa [zaA _ _ _ (by decide)] at h1) (by rwa [zaA _ _ _ (by decide)] at h2))⟩)
   ·have hk3:=hk
    have e28:=(hF.done 1 (29,SP.is (.pointer (some ⟨b1,0,none⟩))) (by rw[hD];rfl) (zaI hk 1 (by kernel_rfl)))
    exact zaE rfl rfl (zhQ rfl b1 0 e28 Ak m ck (rp.cell 0 _ HP0.out) ⟨NN,hl2 2,(hF.put 2 30 (SP.is (.slice Ak m ck)) (.slice Ak m ck) (by rw[hD];rfl) rfl (by rw[hD];rfl) (by rw[hsz];decide) (by rw[hl];decide)),hb1,hszW,rp,(fun h=>hpre (by rwa [zaA _ _ _ (by decide)] at h)),(fun h=>hpost (by rwa [zaA _ _ _ (by decide)] at h)),(fun h=>⟨(zaB ac _ (by decide)).trans (hal (by rwa [zaA _ _ _ (by decide)] at h)).1,(hal (by rwa [zaA _ _ _ (by decide)] at h)).2.1,by rw[zaA _ _ _ (by decide)];exact (hal (by rwa [zaA _ _ _ (by decide)] at h)).2.2⟩),(fun h1 h2=>by change (SP.new 0 0 [] 5).P _ ((ac.put (some 30) _).eval (.tmp 28));rw[zaB ac _ (by decide)];exact ti0 (by rwa [zaA _ _ _ (by decide)] at h1) (by rwa [zaA _ _ _ (by decide)] at h2)),(fun h1 h2=>by change (SP.byd m pd).P _ ((ac.put (some 30) _).eval (.tmp 31));rw[zaB ac _ (by decide)];exact ti3 (by rwa [zaA _ _ _ (by decide)] at h1) (by rwa [zaA _ _ _ (by decide)] at h2))⟩)
   ·have hk3:=hk
    obtain⟨N7,e27,r27⟩:=(ti0 (zaI hk 0 (by kernel_rfl)) (zbD hk))
    have e29:=(hF.done 2 (30,SP.is (.slice Ak m ck)) (by rw[hD];rfl) (zaI hk 2 (by kernel_rfl)))
    refine zaE rfl rfl (znV 22 5 1 1 Tryz.underlying22 zeN (by decide) (.tmp 28) (.tmp 30) rfl N7 e27 r27 Ak m ck (vB pd) e29 (HKV.out W hb1) (zvG pd) HKM.out.1 HKM.out.2 ?_)
    intro g9 c9 W2 l9 n9 hB
    exact⟨NN,hl2 3,((hF.world hB).put 3 31 (SP.any) (.slice (some ⟨g9,0,none⟩) m c9) (by rw[hD];rfl) trivial (by rw[hD];rfl) (by rw[hsz];decide) (by rw[hl];decide)),hb1.trans (hB.mono hb1.size),Nat.le_trans hszW hB.size,Row.below rp hB (Row.lt rp),(fun h=>(hpre (by rwa [zaA _ _ _ (by decide)] at h)).below hB),(fun h=>by obtain⟨qv9,z9⟩:=hpost (by rwa [zaA _ _ _ (by decide)] at h);exact⟨qv9,z9.below hB⟩),(fun h=>⟨(zaB ac _ (by decide)).trans (hal (by rwa [zaA _ _ _ (by decide)] at h)).1,(hal (by rwa [zaA _ _ _ (by decide)] at h)).2.1,by rw[zaA _ _ _ (by decide)];exact Row.below ((hal (by rwa [zaA _ _ _ (by decide)] at h)).2.2) hB (Row.lt ((hal (by rwa [zaA _ _ _ (by decide)] at h)).2.2))⟩),(fun _ h=>absurd (zbC (by rw[hl];decide)) h),(fun _ _=>by change (SP.byd m pd).P _ ((ac.put (some 31) _).eval (.tmp 31));rw[zaR ac _ (by rw[hF.size,hsz];decide)];exact⟨g9,c9,rfl,n9,Lw.range l9⟩)⟩
   ·have hk3:=hk
    have e1:=((hF.keep 1 (by rw[hD];rfl)).trans zs1)
    exact zaE rfl rfl (wp_fP1 b1 rfl e1 ⟨NN,hl2 4,(hF.put 4 32 (SP.is (.pointer (some ⟨b1,1,none⟩))) (.pointer (some ⟨b1,1,none⟩)) (by rw[hD];rfl) rfl (by rw[hD];rfl) (by rw[hsz];decide) (by rw[hl];decide)),hb1,hszW,rp,(fun h=>hpre (by rwa [zaA _ _ _ (by decide)] at h)),(fun h=>hpost (by rwa [zaA _ _ _ (by decide)] at h)),(fun h=>⟨(zaB ac _ (by decide)).trans (hal (by rwa [zaA _ _ _ (by decide)] at h)).1,(hal (by rwa [zaA _ _ _ (by decide)] at h)).2.1,by rw[zaA _ _ _ (by decide)];exact (hal (by rwa [zaA _ _ _ (by decide)] at h)).2.2⟩),(fun h1 h2=>by change (SP.new 0 0 [] 5).P _ ((ac.put (some 32) _).eval (.tmp 28));rw[zaB ac _ (by decide)];exact ti0 (by rwa [zaA _ _ _ (by decide)] at h1) (by rwa [zaA _ _ _ (by decide)] at h2)),(fun h1 h2=>by change (SP.byd m pd).P _ ((ac.put (some 32) _).eval (.tmp 31));rw[zaB ac _ (by decide)];exact ti3 (by rwa [zaA _ _ _ (by decide)] at h1) (by rwa [zaA _ _ _ (by decide)] at h2))⟩)
   ·have hk3:=hk
    have e31:=(hF.done 4 (32,SP.is (.pointer (some ⟨b1,1,none⟩))) (by rw[hD];rfl) (zaI hk 4 (by kernel_rfl)))
    exact zaE rfl rfl (wp_load_mid 30 (.tmp 32) rfl b1 1 e31 L _ (rp.range 1 L (fun j v hj=>HPC.out j v hj)) Tryz.underlying30 rfl HLI.out ⟨NN,hl2 5,(hF.put 5 33 (SP.is (.agg L.toArray)) (.agg L.toArray) (by rw[hD];rfl) rfl (by rw[hD];rfl) (by rw[hsz];decide) (by rw[hl];decide)),hb1,hszW,rp,(fun h=>hpre (by rwa [zaA _ _ _ (by decide)] at h)),(fun h=>hpost (by rwa [zaA _ _ _ (by decide)] at h)),(fun h=>⟨(zaB ac _ (by decide)).trans (hal (by rwa [zaA _ _ _ (by decide)] at h)).1,(hal (by rwa [zaA _ _ _ (by decide)] at h)).2.1,by rw[zaA _ _ _ (by decide)];exact (hal (by rwa [zaA _ _ _ (by decide)] at h)).2.2⟩),(fun h1 h2=>by change (SP.new 0 0 [] 5).P _ ((ac.put (some 33) _).eval (.tmp 28));rw[zaB ac _ (by decide)];exact ti0 (by rwa [zaA _ _ _ (by decide)] at h1) (by rwa [zaA _ _ _ (by decide)] at h2)),(fun h1 h2=>by change (SP.byd m pd).P _ ((ac.put (some 33) _).eval (.tmp 31));rw[zaB ac _ (by decide)];exact ti3 (by rwa [zaA _ _ _ (by decide)] at h1) (by rwa [zaA _ _ _ (by decide)] at h2))⟩)
   ·have hk3:=hk
    exact zaE rfl rfl (zbJ (ac.eval (.tmp 5)) rfl rfl ⟨NN,hl2 6,(hF.put 6 34 (SP.is (.pointer (some ⟨hb,0,none⟩))) (ac.eval (.tmp 5)) (by rw[hD];rfl) (((hF.keep 5 (by rw[hD];rfl)).trans zs5)) (by rw[hD];rfl) (by rw[hsz];decide) (by rw[hl];decide)),hb1,hszW,rp,(fun h=>hpre (by rwa [zaA _ _ _ (by decide)] at h)),(fun h=>hpost (by rwa [zaA _ _ _ (by decide)] at h)),(fun h=>⟨(zaB ac _ (by decide)).trans (hal (by rwa [zaA _ _ _ (by decide)] at h)).1,(hal (by rwa [zaA _ _ _ (by decide)] at h)).2.1,by rw[zaA _ _ _ (by decide)];exact (hal (by rwa [zaA _ _ _ (by decide)] at h)).2.2⟩),(fun h1 h2=>by change (SP.new 0 0 [] 5).P _ ((ac.put (some 34) _).eval (.tmp 28));rw[zaB ac _ (by decide)];exact ti0 (by rwa [zaA _ _ _ (by decide)] at h1) (by rwa [zaA _ _ _ (by decide)] at h2)),(fun h1 h2=>by change (SP.byd m pd).P _ ((ac.put (some 34) _).eval (.tmp 31));rw[zaB ac _ (by decide)];exact ti3 (by rwa [zaA _ _ _ (by decide)] at h1) (by rwa [zaA _ _ _ (by decide)] at h2))⟩)
   ·have hk3:=hk
    have e34:=(hF.done 6 (34,SP.is (.pointer (some ⟨hb,0,none⟩))) (by rw[hD];rfl) (zaI hk 6 (by kernel_rfl)))
    exact zaE rfl rfl (znW rfl (.pointer (some ⟨hb,0,none⟩)) e34 ⟨NN,hl2 7,(hF.put 7 35 (SP.is (.iface 46 (.pointer (some ⟨hb,0,none⟩)))) (.iface 46 (.pointer (some ⟨hb,0,none⟩))) (by rw[hD];rfl) rfl (by rw[hD];rfl) (by rw[hsz];decide) (by rw[hl];decide)),hb1,hszW,rp,(fun h=>hpre (by rwa [zaA _ _ _ (by decide)] at h)),(fun h=>hpost (by rwa [zaA _ _ _ (by decide)] at h)),(fun h=>⟨(zaB ac _ (by decide)).trans (hal (by rwa [zaA _ _ _ (by decide)] at h)).1,(hal (by rwa [zaA _ _ _ (by decide)] at h)).2.1,by rw[zaA _ _ _ (by decide)];exact (hal (by rwa [zaA _ _ _ (by decide)] at h)).2.2⟩),(fun h1 h2=>by change (SP.new 0 0 [] 5).P _ ((ac.put (some 35) _).eval (.tmp 28));rw[zaB ac _ (by decide)];exact ti0 (by rwa [zaA _ _ _ (by decide)] at h1) (by rwa [zaA _ _ _ (by decide)] at h2)),(fun h1 h2=>by change (SP.byd m pd).P _ ((ac.put (some 35) _).eval (.tmp 31));rw[zaB ac _ (by decide)];exact ti3 (by rwa [zaA _ _ _ (by decide)] at h1) (by rwa [zaA _ _ _ (by decide)] at h2))⟩)
   ·have hk3:=hk
    obtain⟨NN8,cN8,e30,h8,r30⟩:=(ti3 (zaI hk 3 (by kernel_rfl)) (zbD hk))
    have e32:=(hF.done 5 (33,SP.is (.agg L.toArray)) (by rw[hD];rfl) (zaI hk 5 (by kernel_rfl)))
    have e33:=(hF.done 7 (35,SP.is (.iface 46 (.pointer (some ⟨hb,0,none⟩)))) (by rw[hD];rfl) (zaI hk 7 (by kernel_rfl)))
    have hp0:=hpre (zbD hk)
    refine zaE rfl rfl (zfM 9 #[.slice (some ⟨NN8,0,none⟩) m cN8,.agg L.toArray,.iface 46 (.pointer (some ⟨hb,0,none⟩))] rfl rfl (by show [ac.eval (.tmp 31),ac.eval (.tmp 33),ac.eval (.tmp 35)]=_;rw[show ac.eval (.tmp 31)=_ from e30,show ac.eval (.tmp 33)=_ from e32,show ac.eval (.tmp 35)=_ from e33]) (by go_simp) ((HRUN.out NN8 cN8 h8 W hb1 r30 hp0).mono ?_))
    rintro e W2 ⟨rfl,qv9,z9,hG⟩
    have hT:Fp D a0 listed ac W2:=hF.turn (by rw[hD];simp only[List.forall_mem_cons,List.not_mem_nil,false_implies,implies_true,and_true];exact⟨fun _ h=>h,fun _ h=>h,fun _ h=>h,fun _ h=>h,fun _ h=>h,fun _ h=>h,fun _ h=>h,fun _ h=>h,fun _ h=>h,fun _ h=>h,fun _ h=>h,fun _ h=>h,fun _ h=>h,fun _ h=>h,fun _ h=>h⟩)
    exact⟨_,rfl,NN,hl2 8,(hT.put 8 36 (SP.is (.tuple #[.agg RV.toArray,.int .i64 RE])) (.tuple #[.agg RV.toArray,.int .i64 RE]) (by rw[hD];rfl) rfl (by rw[hD];rfl) (by rw[hsz];decide) (by rw[hl];decide)),hb1.trans (hG.to_below hb1.size (fun k e=>by rw[e];exact HHB.out)),Nat.le_trans hszW hG.size,hG.row rp (zaN rp hp0.row (by decide)),(fun h=>absurd (zbC (by rw[hl];decide)) h),(fun _=>⟨qv9,z9⟩),(fun h=>⟨(zaB ac _ (by decide)).trans (hal (by rwa [zaA _ _ _ (by decide)] at h)).1,(hal (by rwa [zaA _ _ _ (by decide)] at h)).2.1,by rw[zaA _ _ _ (by decide)];exact hG.row ((hal (by rwa [zaA _ _ _ (by decide)] at h)).2.2) (zaN ((hal (by rwa [zaA _ _ _ (by decide)] at h)).2.2) hp0.row (by decide))⟩),(fun _ h2=>absurd (by rw[zaA _ _ _ (by decide)];exact zaI hk 3 (by kernel_rfl)) h2),(fun _ h=>absurd (zbC (by rw[hl];decide)) h)⟩
   ·have hk3:=hk
    exact zaE rfl rfl (zbJ (ac.eval (.tmp 36)) rfl rfl ⟨NN,hl2 9,(hF.put 9 27 (SP.is (.tuple #[.agg RV.toArray,.int .i64 RE])) (ac.eval (.tmp 36)) (by rw[hD];rfl) ((hF.done 8 (36,SP.is (.tuple #[.agg RV.toArray,.int .i64 RE])) (by rw[hD];rfl) (zaI hk 8 (by kernel_rfl)))) (by rw[hD];rfl) (by rw[hsz];decide) (by rw[hl];decide)),hb1,hszW,rp,(fun h=>hpre (by rwa [zaA _ _ _ (by decide)] at h)),(fun h=>hpost (by rwa [zaA _ _ _ (by decide)] at h)),(fun h=>⟨(zaB ac _ (by decide)).trans (hal (by rwa [zaA _ _ _ (by decide)] at h)).1,(hal (by rwa [zaA _ _ _ (by decide)] at h)).2.1,by rw[zaA _ _ _ (by decide)];exact (hal (by rwa [zaA _ _ _ (by decide)] at h)).2.2⟩),(fun h1 h2=>by change (SP.new 0 0 [] 5).P _ ((ac.put (some 27) _).eval (.tmp 28));rw[zaB ac _ (by decide)];exact ti0 (by rwa [zaA _ _ _ (by decide)] at h1) (by rwa [zaA _ _ _ (by decide)] at h2)),(fun h1 h2=>by change (SP.byd m pd).P _ ((ac.put (some 27) _).eval (.tmp 31));rw[zaB ac _ (by decide)];exact ti3 (by rwa [zaA _ _ _ (by decide)] at h1) (by rwa [zaA _ _ _ (by decide)] at h2))⟩)
   ·have hk3:=hk
    exact zaE rfl rfl (zbZ (.tmp 27) 0 rfl _ (hF.done 9 (27,SP.is (.tuple #[.agg RV.toArray,.int .i64 RE])) (by rw[hD];rfl) (zaI hk 9 (by kernel_rfl))) _ rfl ⟨NN,hl2 10,(hF.put 10 37 (SP.is (.agg RV.toArray)) (_) (by rw[hD];rfl) rfl (by rw[hD];rfl) (by rw[hsz];decide) (by rw[hl];decide)),hb1,hszW,rp,(fun h=>hpre (by rwa [zaA _ _ _ (by decide)] at h)),(fun h=>hpost (by rwa [zaA _ _ _ (by decide)] at h)),(fun h=>⟨(zaB ac _ (by decide)).trans (hal (by rwa [zaA _ _ _ (by decide)] at h)).1,(hal (by rwa [zaA _ _ _ (by decide)] at h)).2.1,by rw[zaA _ _ _ (by decide)];exact (hal (by rwa [zaA _ _ _ (by decide)] at h)).2.2⟩),(fun h1 h2=>by change (SP.new 0 0 [] 5).P _ ((ac.put (some 37) _).eval (.tmp 28));rw[zaB ac _ (by decide)];exact ti0 (by rwa [zaA _ _ _ (by decide)] at h1) (by rwa [zaA _ _ _ (by decide)] at h2)),(fun h1 h2=>by change (SP.byd m pd).P _ ((ac.put (some 37) _).eval (.tmp 31));rw[zaB ac _ (by decide)];exact ti3 (by rwa [zaA _ _ _ (by decide)] at h1) (by rwa [zaA _ _ _ (by decide)] at h2))⟩)
   ·have hk3:=hk
    exact zaE rfl rfl (zbZ (.tmp 27) 1 rfl _ (hF.done 9 (27,SP.is (.tuple #[.agg RV.toArray,.int .i64 RE])) (by rw[hD];rfl) (zaI hk 9 (by kernel_rfl))) _ rfl ⟨NN,hl2 11,(hF.put 11 38 (SP.is (.int .i64 RE)) (_) (by rw[hD];rfl) rfl (by rw[hD];rfl) (by rw[hsz];decide) (by rw[hl];decide)),hb1,hszW,rp,(fun h=>hpre (by rwa [zaA _ _ _ (by decide)] at h)),(fun h=>hpost (by rwa [zaA _ _ _ (by decide)] at h)),(fun h=>⟨(zaB ac _ (by decide)).trans (hal (by rwa [zaA _ _ _ (by decide)] at h)).1,(hal (by rwa [zaA _ _ _ (by decide)] at h)).2.1,by rw[zaA _ _ _ (by decide)];exact (hal (by rwa [zaA _ _ _ (by decide)] at h)).2.2⟩),(fun h1 h2=>by change (SP.new 0 0 [] 5).P _ ((ac.put (some 38) _).eval (.tmp 28));rw[zaB ac _ (by decide)];exact ti0 (by rwa [zaA _ _ _ (by decide)] at h1) (by rwa [zaA _ _ _ (by decide)] at h2)),(fun h1 h2=>by change (SP.byd m pd).P _ ((ac.put (some 38) _).eval (.tmp 31));rw[zaB ac _ (by decide)];exact ti3 (by rwa [zaA _ _ _ (by decide)] at h1) (by rwa [zaA _ _ _ (by decide)] at h2))⟩)
   ·have hk3:=hk
    have hB:Below W.heap.size W (W.alloc (Obj.cells zR.toArray 35)):=(Below.refl _ _).alloc (Nat.le_refl _) _
    have hns:¬ listed.getD 13 false=true:=fun h=>zbD hk (hdn 13 h 12 (by kernel_rfl))
    exact zaE rfl rfl (zfL rfl ⟨W.heap.size,hl2 12,((hF.world hB).put 12 6 (SP.any) (.pointer (some ⟨W.heap.size,0,none⟩)) (by rw[hD];rfl) trivial (by rw[hD];rfl) (by rw[hsz];decide) (by rw[hl];decide)),hb1.trans (hB.mono hb1.size),Nat.le_trans hszW hB.size,Row.below rp hB (Row.lt rp),(fun h=>(hpre (by rwa [zaA _ _ _ (by decide)] at h)).below hB),(fun h=>by obtain⟨qv9,z9⟩:=hpost (by rwa [zaA _ _ _ (by decide)] at h);exact⟨qv9,z9.below hB⟩),(fun _=>⟨zaR ac _ (by rw[hF.size,hsz];decide),hszW,by rw[zaA _ _ _ (by decide),if_neg hns];exact Row.new' rfl rfl⟩),(fun h1 h2=>by change (SP.new 0 0 [] 5).P _ ((ac.put (some 6) _).eval (.tmp 28));rw[zaB ac _ (by decide)];exact (SP.new 0 0 [] 5).st _ _ _ hB (ti0 (by rwa [zaA _ _ _ (by decide)] at h1) (by rwa [zaA _ _ _ (by decide)] at h2))),(fun h1 h2=>by change (SP.byd m pd).P _ ((ac.put (some 6) _).eval (.tmp 31));rw[zaB ac _ (by decide)];exact (SP.byd m pd).st _ _ _ hB (ti3 (by rwa [zaA _ _ _ (by decide)] at h1) (by rwa [zaA _ _ _ (by decide)] at h2)))⟩)
   ·have hk3:=hk
    have hal0:=hal (zaI hk 12 (by kernel_rfl))
    obtain⟨e1,m1,y2⟩:=hal0
    rw[if_neg (zbD hk)] at y2
    have T:=y2.there 0 RV.toArray.size (by simpa using Nat.le_of_eq HRV.out.1)
    have fin:=y2.over (vs:=RV) HRV.out.1
    have hcd:=hdn 9 (hdn 10 (zaI hk 10 (by kernel_rfl)) 9 (by kernel_rfl)) 8 (by kernel_rfl)
    have hG:Gro (·=NN) W (W.setCells NN 0 RV):=zbB NN _ 0 W W (Gro.refl _ W)
    have hT:Fp D a0 listed ac (W.setCells NN 0 RV):=hF.turn (by rw[hD];simp only[List.forall_mem_cons,List.not_mem_nil,false_implies,implies_true,and_true];exact⟨fun _ h=>h,fun _ h=>h,fun _ h=>h,fun _ h=>h,fun _ h=>h,fun _ h=>h,fun _ h=>h,fun _ h=>h,fun _ h=>h,fun _ h=>h,fun _ h=>h,fun _ h=>h,fun _ h=>h,fun _ h=>h,fun _ h=>h⟩)
    have hnX:w.heap.size<=X.heap.size:=HXW.out
    exact zaE rfl rfl (wp_store_mid 35 (.tmp 6) (.tmp 37) rfl NN 0 RV.toArray e1 (hF.done 10 (37,SP.is (.agg RV.toArray)) (by rw[hD];rfl) (zaI hk 10 (by kernel_rfl))) T HRVJ.out HRV.out.2 ⟨NN,hl2 13,(hT.skip 13 1000 (by rw[hD];rfl) (by rw[hl];decide)),zaC hb1 (by omega) _,(by rw[zdJ];exact hszW),hG.row rp (by omega),(fun h=>absurd (by rw[zaA _ _ _ (by decide)];exact hcd) h),(fun h=>by obtain⟨qv9,z9⟩:=hpost hcd;exact⟨qv9,z9.kh (kh_nn hG y2 (by omega))⟩),(fun _=>⟨e1,m1,by rw[if_pos (zbC (by rw[hl];decide))];exact fin⟩),(fun _ h2=>absurd (by rw[zaA _ _ _ (by decide)];exact hdn 8 hcd 3 (by kernel_rfl)) h2),(fun _ h2=>absurd (by rw[zaA _ _ _ (by decide)];exact hcd) h2)⟩)
   ·have hk3:=hk
    exact zaE rfl rfl (zeT (ac.eval (.tmp 38)) rfl rfl ⟨NN,hl2 14,(hF.put 14 7 (SP.is (.int .i64 RE)) (ac.eval (.tmp 38)) (by rw[hD];rfl) ((hF.done 11 (38,SP.is (.int .i64 RE)) (by rw[hD];rfl) (zaI hk 11 (by kernel_rfl)))) (by rw[hD];rfl) (by rw[hsz];decide) (by rw[hl];decide)),hb1,hszW,rp,(fun h=>hpre (by rwa [zaA _ _ _ (by decide)] at h)),(fun h=>hpost (by rwa [zaA _ _ _ (by decide)] at h)),(fun h=>⟨(zaB ac _ (by decide)).trans (hal (by rwa [zaA _ _ _ (by decide)] at h)).1,(hal (by rwa [zaA _ _ _ (by decide)] at h)).2.1,by rw[zaA _ _ _ (by decide)];exact (hal (by rwa [zaA _ _ _ (by decide)] at h)).2.2⟩),(fun h1 h2=>by change (SP.new 0 0 [] 5).P _ ((ac.put (some 7) _).eval (.tmp 28));rw[zaB ac _ (by decide)];exact ti0 (by rwa [zaA _ _ _ (by decide)] at h1) (by rwa [zaA _ _ _ (by decide)] at h2)),(fun h1 h2=>by change (SP.byd m pd).P _ ((ac.put (some 7) _).eval (.tmp 31));rw[zaB ac _ (by decide)];exact ti3 (by rwa [zaA _ _ _ (by decide)] at h1) (by rwa [zaA _ _ _ (by decide)] at h2))⟩)
  ·clear hb1 rp hpre
   intro listed ac W hI hr
   obtain⟨NN,hl,hF,hb1,hszW,rp,hpre,hpost,hal,ti0,ti3⟩:=hI
   have hall:=zcL (by kernel_rfl) hl hr
   replace hpost:=hpost (hall 8 (by decide))
   obtain⟨ea6,mN,rN⟩:=hal (hall 12 (by decide))
   rw[if_pos (hall 13 (by decide))] at rN
   obtain⟨x28,h28⟩:∃ x,ac.eval (.tmp 28)=x:=⟨_,rfl⟩
   have h29:ac.eval (.tmp 29)=.pointer (some ⟨b1,0,none⟩):=hF.done 1 (29,SP.is (.pointer (some ⟨b1,0,none⟩))) (by rw[hD];rfl) (hall 1 (by decide))
   have h30:ac.eval (.tmp 30)=.slice Ak m ck:=hF.done 2 (30,SP.is (.slice Ak m ck)) (by rw[hD];rfl) (hall 2 (by decide))
   obtain⟨x31,h31⟩:∃ x,ac.eval (.tmp 31)=x:=⟨_,rfl⟩
   have h32:ac.eval (.tmp 32)=.pointer (some ⟨b1,1,none⟩):=hF.done 4 (32,SP.is (.pointer (some ⟨b1,1,none⟩))) (by rw[hD];rfl) (hall 4 (by decide))
   have h33:ac.eval (.tmp 33)=.agg L.toArray:=hF.done 5 (33,SP.is (.agg L.toArray)) (by rw[hD];rfl) (hall 5 (by decide))
   have h34:ac.eval (.tmp 34)=.pointer (some ⟨hb,0,none⟩):=hF.done 6 (34,SP.is (.pointer (some ⟨hb,0,none⟩))) (by rw[hD];rfl) (hall 6 (by decide))
   have h35:ac.eval (.tmp 35)=.iface 46 (.pointer (some ⟨hb,0,none⟩)):=hF.done 7 (35,SP.is (.iface 46 (.pointer (some ⟨hb,0,none⟩)))) (by rw[hD];rfl) (hall 7 (by decide))
   have h36:ac.eval (.tmp 36)=.tuple #[.agg RV.toArray,.int .i64 RE]:=hF.done 8 (36,SP.is (.tuple #[.agg RV.toArray,.int .i64 RE])) (by rw[hD];rfl) (hall 8 (by decide))
   have h27:ac.eval (.tmp 27)=.tuple #[.agg RV.toArray,.int .i64 RE]:=hF.done 9 (27,SP.is (.tuple #[.agg RV.toArray,.int .i64 RE])) (by rw[hD];rfl) (hall 9 (by decide))
   have h37:ac.eval (.tmp 37)=.agg RV.toArray:=hF.done 10 (37,SP.is (.agg RV.toArray)) (by rw[hD];rfl) (hall 10 (by decide))
   have h38:ac.eval (.tmp 38)=.int .i64 RE:=hF.done 11 (38,SP.is (.int .i64 RE)) (by rw[hD];rfl) (hall 11 (by decide))
   have h7:ac.eval (.tmp 7)=.int .i64 RE:=hF.done 14 (7,SP.is (.int .i64 RE)) (by rw[hD];rfl) (hall 14 (by decide))
   have ea:=hF.lay [(28,x28),(29,.pointer (some ⟨b1,0,none⟩)),(30,.slice Ak m ck),(31,x31),(32,.pointer (some ⟨b1,1,none⟩)),(33,.agg L.toArray),(34,.pointer (some ⟨hb,0,none⟩)),(35,.iface 46 (.pointer (some ⟨hb,0,none⟩))),(36,.tuple #[.agg RV.toArray,.int .i64 RE]),(27,.tuple #[.agg RV.toArray,.int .i64 RE]),(37,.agg RV.toArray),(38,.int .i64 RE),(6,.pointer (some ⟨NN,0,none⟩)),(7,.int .i64 RE)] (by rw[hD,hsz];rfl) (by simp only[List.forall_mem_cons,List.not_mem_nil,false_implies,implies_true,and_true];exact⟨h28,h29,h30,h31,h32,h33,h34,h35,h36,h27,h37,h38,ea6,h7⟩)
   rw[ha0] at ea
   simp only[List.foldl_cons,List.foldl_nil,jA,jB,jC] at ea
   clear hF hall hr hl hD hpre hal ti0 ti3 zs1 zs5 ha0 hsz h28 h29 h30 h31 h32 h33 h34 h35 h36 h27 h37 h38 ea6 h7
   subst ea
   clear l1 lh mN rN hszW HXW
   obtain⟨qv9,hh9⟩:=hpost
   have BA:Hid (Below w.heap.size w W):=hb1
   have RA:Hid (Row W b1 PL 33):=rp
   have c0:W.cell? ⟨b1,0,none⟩=some (.slice Ak m ck):=rp.cell 0 _ HP0.out
   clear hb1 rp HRUN HKV HKM
   rcases HCASE.out with ⟨h1,h2,h3⟩|⟨h1,h2,h3,h4⟩|⟨h1,h4⟩
   ·subst h1 h2 h3
    obtain⟨A7,c7,hq7,_,_⟩:=Lw.form hh9.own
    subst hq7
    have RHH:Hid (Row W hb [.slice Ar nr cr0,.slice A7 0 c7,.slice none 0 0] tHo):=hh9.row
    clear hh9
    go_upto_region 7 with (go_at_call 10;refine Calls.mono (HCK.out W BA.out) ?_;rintro e X2 ⟨rfl,q⟩;have d1:X2.cell? ⟨hb,1,none⟩=some (.slice A7 0 c7):=(Row.below RHH.out q RHH.out.lt).cell 1 _ rfl;have B2:Hid (Below w.heap.size w X2):=BA.out.trans (q.mono BA.out.size);clear q)
    go_wp2_with fail
    go_ret
    exact⟨rfl,B2.out⟩
   ·subst h1 h2 h3 h4
    obtain⟨A7,c7,hq7,_,_⟩:=Lw.form hh9.own
    subst hq7
    have RHH:Hid (Row W hb [.slice Ar nr cr0,.slice A7 0 c7,.slice none 0 0] tHo):=hh9.row
    clear hh9
    go_upto_region 9 with (first
     |(go_at_call 10;refine Calls.mono (HCK.out W BA.out) ?_;rintro e X2 ⟨rfl,q⟩;have B2:Hid (Below W.heap.size W X2):=q;have c02:X2.cell? ⟨b1,0,none⟩=some (.slice Ak m ck):=(Row.below RA.out q RA.out.lt).cell 0 _ HP0.out;have RG2:Hid (X2.rangeAt b1 1 L):=(Row.below RA.out q RA.out.lt).range 1 L (fun j v hj=>HPC.out j v hj);clear q)
     |(refine zaG rfl 30 (.tmp 56) rfl b1 1 rfl L _ RG2.out Tryz.underlying30 rfl HLI.out ?_;simp only[Act.put,jA,jB,jC])
     |(go_at_call 5;refine Calls.mono (HR0.out X2 (BA.out.trans (B2.out.mono BA.out.size))) ?_;rintro e X4 ⟨A8,n8,c8,rfl,q⟩;have B4:Hid (Below X2.heap.size X2 X4):=q;clear q)
     |(refine zaT rfl rfl ?_;intro X5 (R5a:Hid (Row X5 X4.heap.size zR 35)) (K5:Hid (Below X4.heap.size X4 X5)) q3;clear q3;simp only[Act.put,jA,jB,jC])
     |(refine zaD rfl 35 (.tmp 8) (.tmp 59) rfl X4.heap.size RV0 zR 35 rfl rfl R5a.out HRV0.out.1 HRVI0.out HRV0.out.2 ?_;intro X6 (E6:Hid (X6=_)) q2;clear q2;simp only[Act.put]))
    have k6:Below X4.heap.size X4 X6:=by rw[E6.out];exact zaC K5.out (Nat.le_refl _) _
    have B6:Hid (Below w.heap.size w X6):=((BA.out.trans (B2.out.mono BA.out.size)).trans (B4.out.mono (BA.out.trans (B2.out.mono BA.out.size)).size)).trans (k6.mono ((BA.out.trans (B2.out.mono BA.out.size)).trans (B4.out.mono (BA.out.trans (B2.out.mono BA.out.size)).size)).size)
    clear E6 R5a K5
    have d1:X6.cell? ⟨hb,1,none⟩=some (.slice A7 0 c7):=(Row.below (Row.below (Row.below RHH.out B2.out RHH.out.lt) B4.out (Row.below RHH.out B2.out RHH.out.lt).lt) k6 (Row.below (Row.below RHH.out B2.out RHH.out.lt) B4.out (Row.below RHH.out B2.out RHH.out.lt).lt).lt).cell 1 _ rfl
    clear c0 k6
    go_wp2_with fail
    go_ret
    exact⟨rfl,B6.out⟩
   ·subst h1
    clear hh9
    have ne:(RE0==101)=false:=by simpa using h4
    go_upto_region 9 with (first
     |(go_at_call 10;refine Calls.mono (HCK.out W BA.out) ?_;rintro e X2 ⟨rfl,q⟩;have B2:Hid (Below W.heap.size W X2):=q;have c02:X2.cell? ⟨b1,0,none⟩=some (.slice Ak m ck):=(Row.below RA.out q RA.out.lt).cell 0 _ HP0.out;have RG2:Hid (X2.rangeAt b1 1 L):=(Row.below RA.out q RA.out.lt).range 1 L (fun j v hj=>HPC.out j v hj);clear q)
     |(refine zaG rfl 30 (.tmp 56) rfl b1 1 rfl L _ RG2.out Tryz.underlying30 rfl HLI.out ?_;simp only[Act.put,jA,jB,jC])
     |(go_at_call 5;refine Calls.mono (HR0.out X2 (BA.out.trans (B2.out.mono BA.out.size))) ?_;rintro e X4 ⟨A8,n8,c8,rfl,q⟩;have B4:Hid (Below X2.heap.size X2 X4):=q;clear q)
     |(refine zaT rfl rfl ?_;intro X5 (R5a:Hid (Row X5 X4.heap.size zR 35)) (K5:Hid (Below X4.heap.size X4 X5)) q3;clear q3;simp only[Act.put,jA,jB,jC])
     |(refine zaD rfl 35 (.tmp 8) (.tmp 59) rfl X4.heap.size RV0 zR 35 rfl rfl R5a.out HRV0.out.1 HRVI0.out HRV0.out.2 ?_;intro X6 (E6:Hid (X6=_)) q2;clear q2;simp only[Act.put]))
    have k6:Below X4.heap.size X4 X6:=by rw[E6.out];exact zaC K5.out (Nat.le_refl _) _
    have B6:Hid (Below w.heap.size w X6):=((BA.out.trans (B2.out.mono BA.out.size)).trans (B4.out.mono (BA.out.trans (B2.out.mono BA.out.size)).size)).trans (k6.mono ((BA.out.trans (B2.out.mono BA.out.size)).trans (B4.out.mono (BA.out.trans (B2.out.mono BA.out.size)).size)).size)
    clear E6 R5a K5
    clear c0 k6
    go_wp2_with (go_at_call 8;refine Calls.mono (zkZ X6) ?_;rintro e X7 ⟨rfl,q⟩;have B7:Hid (Below w.heap.size w X7):=B6.out.trans (q.mono B6.out.size);clear q)
    go_ret
    exact⟨rfl,B7.out⟩
end Go.Proofs.YtedeobikfddmgaaGreat
namespace Go.Proofs.YtedeobikfddmgaaGreat.mrf
open Go Go.RowKit Go.ChangeShapes Go.WideShapes Go.ChangeAt
open Sha
def pz:List Value:=Value.slice none 0 0 :: (List.replicate 40 (Value.int .u8 0)++[Value.int .i64 0,.int .u64 0,.int .u64 0,.int .u64 0,.int .u64 0,.slice none 0 0,.int .i64 0,.int .i64 0,.slice none 0 0])
theorem contract (H:Type) (enc:TypeId × Value->H) (W:World) (base:Nat) (args:Array Value) (ds gs:List (DataW H)) (before:List MemPlace)
 (hval:∀ (j:Nat) t v,Tryz.f4.params[j]?=some t->args[j]?=some v->Value.okWide Tryz.prog W .any base t v)
 (hW:DataW.Whole enc Tryz.prog Tryz.f4.params.toList Rows.machineRefusesSpec.vars false W args.toList ds gs before)
 (hsz:(DataW.weightsEach Tryz.prog (Tryz.f4.params.toList++(OpenSpec.ofChange Rows.machineRefusesSpec).bare.plain.varTypes Tryz.prog) (ds++gs)).all (·<=reachBytes)=true) :
 Calls Tryz.prog 4 args W fun e W'=>∃ v,e=.returned v/\Rows.machineRefusesSpec.post enc Tryz.prog Tryz.f4 false true false false W args v W':=by
 have hW':=hW
 obtain⟨p,q,hA0,hV,rfl,hfz,hnd⟩:=hW
 have hA:DataW.TrodAll enc Tryz.prog W 0 (fun _=>true) true Tryz.f4.params.toList args.toList ds p:=hA0
 rw[Tryz.params4] at hA hval hsz
 obtain⟨v0,vs0,d0,ds0,p0,q0,hargs,rfl,rfl,h0,r0⟩:=trodAll_cons hA
 obtain⟨rfl,rfl,rfl⟩:=trodAll_nil r0
 obtain rfl:args=#[v0]:=by cases args;simp_all
 obtain⟨rfl,rfl⟩:=trodVars_none hV
 have k0:=h0
 have lt0:∀ x ∈ p0,x.block<W.heap.size:=by obtain⟨m,hm⟩:=k0;exact DataW.trod_lt m _ _ _ hm
 obtain⟨ca0,rfl,hca0⟩:=okWide_struct Tryz.underlying33 (hval 0 33 v0 rfl rfl)
 rw[zoE] at hca0
 obtain⟨pd0,Ak0,ck0,c0,ags0,Aa0,cg0,rs0,Ar0,cr0,wc0,es0,la0,lr0,sk0,sa0,sr0,hb0⟩:=(fun ⟨fuel,hf⟩=>play_f (by simpa [Value.cells] using hca0) hf:(∃ _,_)->_) h0
 replace hb0:=hb0 (fun mm hmm=>of_decide_eq_true (List.all_eq_true.1 hsz mm (DataW.weights_mem_each (j:=0) (t:=33) rfl rfl _ hmm)))
 have hrb0:reachBytes=140737488351232:=rfl
 rw[hrb0] at hb0
 obtain rfl:ca0=(Value.slice Ak0 pd0.length ck0 :: (c0.cs (.slice Aa0 ags0.length cg0)++[.slice Ar0 rs0.length cr0])).toArray:=by rw[<-es0];simp [Value.cells]
 have mk0:pd0.length<=maxLen/\pd0.length*1<=140737488355328:=⟨by unfold maxLen;omega,by omega⟩
 have ma0:ags0.length<=maxLen/\ags0.length*32<=140737488355328:=⟨by unfold maxLen;omega,by omega⟩
 have mr0:rs0.length<=maxLen/\rs0.length*40<=140737488355328:=⟨by unfold maxLen;omega,by omega⟩
 clear hA0
 refine (zlP pd0 pd0.length rfl c0 wc0 ags0 rs0 la0 lr0 Ak0 Aa0 Ar0 ck0 cg0 cr0 _ rfl  W sk0 mk0 sa0 ma0 sr0 mr0).mono fun e W' ⟨he,bel⟩=>?_
 subst he
 exact⟨_,rfl,_,_,_,[],_,[],hW',trodAll_mk1 (shut_bool Tryz.underlying4 _),(trodAll_cons_mk (Below.trod ztE (by kernel_rfl) (of_decide_eq_true (by kernel_rfl)) k0 bel lt0) trodAll_mk0),rfl,bel.frame _,fun h=>by cases h⟩
theorem laid_met (os:Os):laidMet Tryz.prog Rows.machineRefusesRow.laid (({ World.holding Tryz.prog os ⟨#[],#[],[]⟩ with heap:=(World.holding Tryz.prog os ⟨#[],#[],[]⟩).heap }:World).forCall (fun _ _=>0) ⟨#[],#[.agg pz.toArray],[]⟩).memory:=
 laidMet_of_run' 8 (by kernel_rfl) (by kernel_rfl)
theorem reads (os:Os) {H:Type} (enc:TypeId × Value->H):∃ places,DataW.whole enc Tryz.prog (({ World.holding Tryz.prog os ⟨#[],#[],[]⟩ with heap:=(World.holding Tryz.prog os ⟨#[],#[],[]⟩).heap }:World).forCall (fun _ _=>0) ⟨#[],#[.agg pz.toArray],[]⟩).memory Tryz.f4.params.toList Rows.machineRefusesSpec.vars false (#[.agg pz.toArray]:Array Value).toList 8=some ([.agg [.nil,.agg [.agg (List.replicate 20 (.lit (.int .u8 0))),.agg (List.replicate 20 (.lit (.int .u8 0))),.lit (.int .i64 0),.agg (List.replicate 4 (.lit (.int .u64 0))),.nil,.lit (.int .i64 0),.lit (.int .i64 0)],.nil]],[],places):=
 ⟨[],by kernel_rfl⟩
theorem lifted (os:Os) (started:os.Started) (H:Type) (enc:TypeId × Value->H) (F:Stop.Interp) :
 ReturnsInHanded {} Tryz.checked os 4 .any ((OpenSpec.ofChange Rows.machineRefusesSpec).preRow enc Tryz.prog Tryz.f4 Rows.machineRefusesRow.domain false Rows.machineRefusesRow.laid) (((OpenSpec.ofChange Rows.machineRefusesSpec).at F).post enc Tryz.prog Tryz.f4 false true false false):=by
 obtain⟨places,hx⟩:=reads os enc
 refine returnsInHanded_of_row (C:=Tryz.checked) (s:=OpenSpec.ofChange Rows.machineRefusesSpec) own started (by kernel_rfl) Tryz.func4
  (witness_row_at (enc:=enc) (C:=Tryz.checked) false ({ World.holding Tryz.prog os ⟨#[],#[],[]⟩ with heap:=(World.holding Tryz.prog os ⟨#[],#[],[]⟩).heap }:World) #[.agg pz.toArray] rfl (by kernel_rfl) (by kernel_rfl) (by kernel_rfl)
    (OpenSpec.preRow_of_cond 8 hx (by kernel_rfl) (fun k hk=>by cases hk) (by kernel_rfl) (laid_met os))) ?_
 intro W base args ds gs before hval hW _ hc hsz hL _ _
 exact contract H enc W base args ds gs before hval hW hsz
theorem said:Rows.MachineRefusesSaid:=
 OpenClaim.holds_of_cond 4 Tryz.f4 rfl rfl rfl rfl rfl rfl rfl ⟨rfl,rfl,rfl,rfl,rfl⟩ rfl rfl rfl rfl rfl (by kernel_rfl) Tryz.func4 (by kernel_rfl)
  (of_decide_eq_true (by kernel_rfl)) (by unfold Func.isWrapper;first|(rw[if_pos (by decide +kernel)];kernel_rfl)|(rw[if_neg (by decide +kernel)];exact⟨rfl,rfl⟩))
  (fun os started H enc _ F=>by rw[OpenClaim.pre_eq_preRow];exact lifted os started H enc F)
end Go.Proofs.YtedeobikfddmgaaGreat.mrf
