import Derived.Test.YtedeobikfddmgaaGreatMkAA
import Derived.Test.YtedeobikfddmgaaGreatMkU
import Derived.ArgAppend
set_option maxRecDepth 100000
set_option maxHeartbeats 16000000
namespace Go.Proofs.YtedeobikfddmgaaGreat
open Go Go.RowKit
open Sha
open Wd
def zcO (v:Value):List Value:=List.replicate 40 (.int .u8 0)++[.int .i64 0,.int .u64 0,.int .u64 0,.int .u64 0,.int .u64 0,v,.int .i64 0,.int .i64 100]
theorem zeI (v:Value):(zcO v).length=48:=rfl
theorem zlA (v u:Value):(zcO v).set 45 u=zcO u:=rfl
theorem zrR (A:Option Addr) (n c:Nat):(zcO (.slice A n c)).toArray.all (·.oneCell')=true:=by rw[<-Array.all_toList];rfl
theorem zdR:(Tryz.prog.info? 30).map (·.size)=some 48:=by kernel_rfl
theorem zrO (T:Nat) (A1:Option Addr) (n1 c1 gs n:Nat) (Aa:Option Addr) (na ca:Nat) (ht:TypeId) (hb:Nat):Tryz.prog.built 79 [(0,.slice (some ⟨T,0,none⟩) 28 28),(1,.agg #[.slice A1 n1 c1,.slice (some ⟨gs,0,none⟩) n n]),(2,.agg (zcO (.slice Aa na ca)).toArray),(3,.iface ht (.pointer (some ⟨hb,0,none⟩))),(5,.int .i64 100)]=some (rc T (.slice A1 n1 c1) (.slice (some ⟨gs,0,none⟩) n n) (zcO (.slice Aa na ca)) (.iface ht (.pointer (some ⟨hb,0,none⟩))) (.slice none 0 0) 100 0 zW).toArray:=by kernel_rfl
section
variable {ops:Array Oper} {rest:List Oper} {op:Oper} {a:Act} {w:World} {Q:Exit->Act->World->Prop}
theorem ziT (hgd:op.guard=none) (x0 x1 x2 x3 x5:Operand) (ho:op.op=.build 79 #[(0,x0),(1,x1),(2,x2),(3,x3),(5,x5)]) (T:Nat) (A1:Option Addr) (n1 c1 gs n:Nat) (Aa:Option Addr) (na ca:Nat) (ht:TypeId) (hb:Nat) (L M:List Value) (hL:L=zcO (.slice Aa na ca)) (hM:M=rc T (.slice A1 n1 c1) (.slice (some ⟨gs,0,none⟩) n n) L (.iface ht (.pointer (some ⟨hb,0,none⟩))) (.slice none 0 0) 100 0 zW)
 (h0:a.eval x0=.slice (some ⟨T,0,none⟩) 28 28) (h1:a.eval x1=.agg #[.slice A1 n1 c1,.slice (some ⟨gs,0,none⟩) n n]) (h2:a.eval x2=.agg L.toArray) (h3:a.eval x3=.iface ht (.pointer (some ⟨hb,0,none⟩))) (h5:a.eval x5=.int .i64 100)
 (h:wpList Tryz.prog ops Q rest (a.put op.dst (.agg M.toArray)) w):wpList Tryz.prog ops Q (op :: rest) a w:=
 wpList_plain hgd fun _ hK=>by
  subst hL hM
  have hr:=run_build (P:=Tryz.prog) w 79 #[(0,.slice (some ⟨T,0,none⟩) 28 28),(1,.agg #[.slice A1 n1 c1,.slice (some ⟨gs,0,none⟩) n n]),(2,.agg (zcO (.slice Aa na ca)).toArray),(3,.iface ht (.pointer (some ⟨hb,0,none⟩))),(5,.int .i64 100)] _ (zrO T A1 n1 c1 gs n Aa na ca ht hb)
  unfold Oper.wp execOp
  simp only[ho,List.map_toArray,List.map_cons,List.map_nil,h0,h1,h2,h3,h5,Sem.run_bind,hr,Result.andThen_ok,Sem.run_pure,Oper.upon_value]
  exact hK _ _ h
end
def dA:List (BitVec 8):=[16#8,0#8,16#8,1#8,6#8,1#8]
theorem chk_dA:chk dA=some alv:=rfl
theorem read_dA (T g cg:Nat) (hcg:6<=cg) (w:World) (hT:Row w T mtab 95) (hr:w.rangeAt g 0 (vB dA)):Calls Tryz.prog 25 #[.slice (some ⟨T,0,none⟩) 28 28,.slice (some ⟨g,0,none⟩) 6 cg] w fun e w'=>∃ A1 c1 gs,e=.returned (.tuple #[.agg #[.slice A1 4 c1,.slice (some ⟨gs,0,none⟩) 6 6],.int .i64 0])/\Lw w' 97 7 (.slice A1 4 c1) 4 (fl alv)/\Row w' gs (vI (sts alv 6)) 3/\Below w.heap.size w w':=by
 refine Calls.mono (zkD T g 6 cg dA rfl (by decide) (by decide) hcg w hT hr) ?_
 rintro e w' ⟨h|h,hB⟩
 ·obtain⟨ls,v,gs,q1,_,rfl,q3,q4,_,_⟩:=h
  rw[chk_dA] at q1
  obtain rfl:=Option.some.inj q1
  obtain⟨A1,c1,rfl,_,_⟩:=Lw.form q3
  exact⟨A1,c1,gs,rfl,q3,q4,hB⟩
 ·rw[chk_dA] at h
  cases h.1
theorem zuD (g cg ga ca hb:Nat) (hcg:6<=cg) (ht:TypeId) (L:List Value) (hL:L=zcO (.slice (some ⟨ga,0,none⟩) 2 ca)) (w:World) (hr:w.rangeAt g 0 (vB dA)) (hga:w.rangeAt ga 0 (fw [5,7])):Calls Tryz.prog 9 #[.slice (some ⟨g,0,none⟩) 6 cg,.agg L.toArray,.iface ht (.pointer (some ⟨hb,0,none⟩))] w fun e w'=>e=.returned (.tuple #[.agg #[.int .u64 12,.int .u64 0,.int .u64 0,.int .u64 0,.int .i64 7],.int .i64 0])/\Below w.heap.size w w':=by
 have HR:Hid (w.rangeAt g 0 (vB dA)):=hr
 have HGA:Hid (w.rangeAt ga 0 (fw [5,7])):=hga
 have HL:Hid (L=zcO (.slice (some ⟨ga,0,none⟩) 2 ca)):=hL
 have HLI:Hid ((Tryz.prog.info? 30).map (·.size)=some L.length):=by show _=_;rw[hL,zeI];exact zdR
 have hq:=zdQ ht (.pointer (some ⟨hb,0,none⟩))
 have HCG:Hid (6<=cg):=hcg
 clear hr hga hL hcg
 go_enter Tryz.func9,Tryz.ntmps9
 go_upto_region 3 with (first
  |(refine zaF 30 rfl (.tmp 1) rfl L rfl ?_;intro X1 (R4:Hid (Row X1 w.heap.size L 30)) (B1:Hid (Below w.heap.size w X1)) (S1:Hid (X1.heap.size=w.heap.size+1));simp only[Act.put,jA,jB,jC])
  |(refine zaT rfl rfl ?_;intro X2 (R6:Hid (Row X2 X1.heap.size zR 35)) (B2:Hid (Below X1.heap.size X1 X2)) q3;clear q3;simp only[Act.put,jA,jB,jC]))
 obtain⟨b4,hb4⟩:∃ b,b=w.heap.size:=⟨_,rfl⟩
 obtain⟨b6,hb6⟩:∃ b,b=X1.heap.size:=⟨_,rfl⟩
 have HB4:Hid (b4=w.heap.size/\w.heap.size<=b6):=⟨hb4,by rw[hb6];exact B1.out.size⟩
 have BB:Hid (Below w.heap.size w X2):=B1.out.trans (B2.out.mono B1.out.size)
 replace R4:Hid (Row X2 b4 L 30):=by rw[hb4];exact Row.below R4.out B2.out R4.out.lt
 replace R6:Hid (Row X2 b6 zR 35):=by rw[hb6];exact R6.out
 rw[<-hb4,<-hb6]
 clear hb4 hb6 B1 B2 S1 hq
 go_upto_region 4 with (go_at_call 24;refine Calls.mono (zfG X2) ?_;rintro e X3 ⟨rfl,qt,q2⟩;have RT:Hid (Row X3 X2.heap.size mtab 95):=qt;have B3:Hid (Below w.heap.size w X3):=BB.out.trans (q2.mono BB.out.size);have R43:Hid (Row X3 b4 L 30):=Row.below R4.out q2 R4.out.lt;have R63:Hid (Row X3 b6 zR 35):=Row.below R6.out q2 R6.out.lt;clear qt q2 R4 R6 BB)
 obtain⟨T,hT⟩:∃ T,T=X2.heap.size:=⟨_,rfl⟩
 rw[<-hT] at RT
 rw[<-hT]
 clear hT
 have HRD:Hid _:=read_dA T g cg HCG.out X3 RT.out (zaS HR.out B3.out)
 go_upto_region 5 with (first
  |(go_at_call 25;refine Calls.mono HRD.out ?_;rintro e X4 ⟨A1,c1,gs,rfl,q3,q4,q2⟩;have LP:Hid (Lw X4 97 7 (.slice A1 4 c1) 4 (fl alv)):=q3;have RS:Hid (Row X4 gs (vI (sts alv 6)) 3):=q4;have B4:Hid (Below w.heap.size w X4):=B3.out.trans (q2.mono B3.out.size);have RT4:Hid (Row X4 T mtab 95):=Row.below RT.out q2 RT.out.lt;have R44:Hid (Row X4 b4 L 30):=Row.below R43.out q2 R43.out.lt;have R64:Hid (Row X4 b6 zR 35):=Row.below R63.out q2 R63.out.lt;clear q2 q3 q4)
  |(refine zbT rfl rfl ?_;intro X5 (R9:Hid (Row X5 X4.heap.size zP 72)) (B5:Hid (Below X4.heap.size X4 X5)) q3;clear q3;simp only[Act.put,jA,jB,jC])
  |(refine zaD rfl 72 (.tmp 9) (.tmp 20) rfl X4.heap.size [.slice A1 4 c1,.slice (some ⟨gs,0,none⟩) 6 6] zP 72 rfl rfl R9.out rfl zcC (zjM A1 _ _ _ 6) ?_;intro X6 (E6:Hid (X6=_)) (R96:Hid (Row X6 X4.heap.size [.slice A1 4 c1,.slice (some ⟨gs,0,none⟩) 6 6] 72));simp only[Act.put]))
 have BY:Below X4.heap.size X4 X6:=by rw[E6.out];exact zaC B5.out (Nat.le_refl _) _
 obtain⟨b9,hb9⟩:∃ b,b=X4.heap.size:=⟨_,rfl⟩
 rw[<-hb9] at R96
 rw[<-hb9]
 have LP6:Hid (Lw X6 97 7 (.slice A1 4 c1) 4 (fl alv)):=Lw.be LP.out BY
 have RS6:Hid (Row X6 gs (vI (sts alv 6)) 3):=Row.below RS.out BY RS.out.lt
 have B6:Hid (Below w.heap.size w X6):=B4.out.trans (BY.mono B4.out.size)
 have RT6:Hid (Row X6 T mtab 95):=Row.below RT4.out BY RT4.out.lt
 have R46:Hid (Row X6 b4 L 30):=Row.below R44.out BY R44.out.lt
 have R66:Hid (Row X6 b6 zR 35):=Row.below R64.out BY R64.out.lt
 have HMB:Hid _:=zyQ L (some ⟨ga,0,none⟩) ca (by rw[HL.out];rfl) (by rw[HL.out];rfl) (by rw[HL.out];rfl) (by rw[HL.out];rfl) X6
 clear BY hb9 E6 R9 B5 LP RS B4 RT4 R44 R64 R43 R63 B3 RT HRD
 go_upto_region 9 with (first
  |(refine zaG rfl 30 (.tmp 4) rfl b4 0 rfl L _ R46.out.all Tryz.underlying30 rfl HLI.out ?_;simp only[Act.put,jA,jB,jC])
  |(go_at_call 26;refine Calls.mono HMB.out ?_;rintro e X7 ⟨rfl,q2⟩;have LP7:Hid (Lw X7 97 7 (.slice A1 4 c1) 4 (fl alv)):=Lw.be LP6.out q2;have RS7:Hid (Row X7 gs (vI (sts alv 6)) 3):=Row.below RS6.out q2 RS6.out.lt;have B7:Hid (Below w.heap.size w X7):=B6.out.trans (q2.mono B6.out.size);have RT7:Hid (Row X7 T mtab 95):=Row.below RT6.out q2 RT6.out.lt;have R47:Hid (Row X7 b4 L 30):=Row.below R46.out q2 R46.out.lt;have R67:Hid (Row X7 b6 zR 35):=Row.below R66.out q2 R66.out.lt;have R97:Hid (Row X7 b9 [.slice A1 4 c1,.slice (some ⟨gs,0,none⟩) 6 6] 72):=Row.below R96.out q2 R96.out.lt;clear q2))
 have c45:X7.cell? ⟨b4,45,none⟩=some (.slice (some ⟨ga,0,none⟩) 2 ca):=R47.out.cell 45 _ (by rw[HL.out];rfl)
 have HCL:Hid _:=zjO [5,7] (by decide) ga ca X7 (zaS HGA.out B7.out)
 have HL45:Hid (45<L.length):=by show _<_;rw[HL.out,zeI];decide
 clear HMB LP6 RS6 B6 RT6 R46 R66 R96
 go_upto_region 10 with (first
  |(go_at_call 27;refine Calls.mono HCL.out ?_;rintro e X8 ⟨Aa,cc,rfl,qa,qf,q2⟩;have LA8:Hid (Lw X8 27 4 (.slice Aa 2 cc) 2 (fw [5,7])):=qa;have LP8:Hid (Lw X8 97 7 (.slice A1 4 c1) 4 (fl alv)):=Lw.be LP7.out q2;have RS8:Hid (Row X8 gs (vI (sts alv 6)) 3):=Row.below RS7.out q2 RS7.out.lt;have B8:Hid (Below w.heap.size w X8):=B7.out.trans (q2.mono B7.out.size);have RT8:Hid (Row X8 T mtab 95):=Row.below RT7.out q2 RT7.out.lt;have R48:Hid (Row X8 b4 L 30):=Row.below R47.out q2 R47.out.lt;have R68:Hid (Row X8 b6 zR 35):=Row.below R67.out q2 R67.out.lt;have R98:Hid (Row X8 b9 [.slice A1 4 c1,.slice (some ⟨gs,0,none⟩) 6 6] 72):=Row.below R97.out q2 R97.out.lt;clear qa qf q2)
  |(refine zbI rfl 28 (.tmp 35) (.tmp 34) rfl b4 45 (.slice Aa 2 cc) L 30 rfl rfl rfl R48.out HL45.out zgU rfl ?_;intro X9 (R49:Hid (Row X9 b4 (L.set 45 (.slice Aa 2 cc)) 30)) (G9:Hid (Gro (·=b4) X8 X9)) q3;clear q3;simp only[Act.put]))
 obtain⟨M,hM⟩:∃ M,M=zcO (.slice Aa 2 cc):=⟨_,rfl⟩
 have HM:Hid (M=zcO (.slice Aa 2 cc)):=hM
 have R4M:Hid (Row X9 b4 M 30):=by rw[hM,<-zlA (.slice (some ⟨ga,0,none⟩) 2 ca),<-HL.out];exact R49.out
 have HMI:Hid ((Tryz.prog.info? 30).map (·.size)=some M.length):=by show _=_;rw[hM,zeI];exact zdR
 have LA9:Hid (Lw X9 27 4 (.slice Aa 2 cc) 2 (fw [5,7])):=Lw.gro LA8.out G9.out (Lw.ne LA8.out R48.out (by decide))
 have LP9:Hid (Lw X9 97 7 (.slice A1 4 c1) 4 (fl alv)):=Lw.gro LP8.out G9.out (Lw.ne LP8.out R48.out (by decide))
 have RS9:Hid (Row X9 gs (vI (sts alv 6)) 3):=G9.out.row RS8.out (zaN RS8.out R48.out (by decide))
 have RT9:Hid (Row X9 T mtab 95):=G9.out.row RT8.out (zaN RT8.out R48.out (by decide))
 have R69:Hid (Row X9 b6 zR 35):=G9.out.row R68.out (zaN R68.out R48.out (by decide))
 have R99:Hid (Row X9 b9 [.slice A1 4 c1,.slice (some ⟨gs,0,none⟩) 6 6] 72):=G9.out.row R98.out (zaN R98.out R48.out (by decide))
 have B9:Hid (Below w.heap.size w X9):=B8.out.trans (G9.out.to_below B8.out.size (fun k e=>by rw[e,HB4.out.1];exact Nat.le_refl _))
 have c47:X9.cell? ⟨b4,47,none⟩=some (.int .i64 100):=R4M.out.cell 47 _ (by rw[hM];rfl)
 obtain⟨RC,hRC⟩:∃ RC,RC=rc T (.slice A1 4 c1) (.slice (some ⟨gs,0,none⟩) 6 6) M (.iface ht (.pointer (some ⟨hb,0,none⟩))) (.slice none 0 0) 100 0 zW:=⟨_,rfl⟩
 have HRC:Hid (RC=rc T (.slice A1 4 c1) (.slice (some ⟨gs,0,none⟩) 6 6) M (.iface ht (.pointer (some ⟨hb,0,none⟩))) (.slice none 0 0) 100 0 zW):=hRC
 clear hM hRC c45 R49 G9 LA8 LP8 RS8 B8 RT8 R48 R68 R98 HCL LP7 RS7 B7 RT7 R47 R67 R97 HL45 HL
 go_upto_region 11 with (first
  |(refine zaG rfl 72 (.tmp 9) rfl b9 0 rfl [.slice A1 4 c1,.slice (some ⟨gs,0,none⟩) 6 6] _ R99.out.all Tryz.underlying72 rfl zcC ?_;simp only[Act.put,jA,jB,jC])
  |(refine zaG rfl 30 (.tmp 4) rfl b4 0 rfl M _ R4M.out.all Tryz.underlying30 rfl HMI.out ?_;simp only[Act.put,jA,jB,jC])
  |(refine ziT rfl (.tmp 36) (.tmp 37) (.tmp 38) (.tmp 39) (.tmp 41) rfl T A1 4 c1 gs 6 Aa 2 cc ht hb M RC HM.out HRC.out rfl rfl rfl rfl rfl ?_;simp only[Act.put,jA,jB,jC])
  |(refine zaF 79 rfl (.tmp 42) rfl RC rfl ?_;intro Y (RR:Hid (Row Y X9.heap.size RC 79)) (BY:Hid (Below X9.heap.size X9 Y)) q3;clear q3;simp only[Act.put,jA,jB,jC]))
 have HRN:Hid (Rn Y X9 Y X9.heap.size T gs 6 (.slice A1 4 c1) M (.iface ht (.pointer (some ⟨hb,0,none⟩))) (.slice Aa 2 cc) (.slice none 0 0) [] 100 0 zW alv [5,7]):=
  ⟨by rw[<-HRC.out];exact RR.out,by rw[HM.out];rfl,rfl,Lw.nil _ _ _,Row.below RT9.out BY.out RT9.out.lt,Lw.be LP9.out BY.out,Row.below RS9.out BY.out RS9.out.lt,by rw[HM.out];rfl,Lw.be LA9.out BY.out,(fun g e=>by cases e),BY.out,Nat.le_refl _,(fun g e=>by cases e),(fun _ _ q=>q)⟩
 have HAL:Hid _:=zrH X9.heap.size T gs (.slice A1 4 c1) M (.iface ht (.pointer (some ⟨hb,0,none⟩))) (.slice Aa 2 cc) (.slice none 0 0) zW (by rw[HM.out];rfl) Y X9 Y HRN.out
 clear c47 HRN RR
 go_wp2_with (first
  |(go_at_call 28;refine Calls.mono HAL.out ?_;rintro e Z ⟨rfl,q2⟩;have RZ:Hid (Row Z b6 zR 35):=Row.below R69.out q2 R69.out.lt;have BZ:Hid (Below w.heap.size w Z):=B9.out.trans (q2.mono B9.out.size);clear q2)
  |(refine zaD rfl 35 (.tmp 6) (.tmp 46) rfl b6 [.int .u64 12,.int .u64 0,.int .u64 0,.int .u64 0,.int .i64 7] zR 35 rfl rfl RZ.out rfl zaP (by rw[<-Array.all_toList];rfl) ?_;intro Z2 (EZ:Hid (Z2=_)) (RZ2:Hid (Row Z2 b6 [.int .u64 12,.int .u64 0,.int .u64 0,.int .u64 0,.int .i64 7] 35));simp only[Act.put]))
 have BF:Below w.heap.size w Z2:=by rw[EZ.out];exact zaC BZ.out HB4.out.2 _
 exact bodyPost_ret (zaO Tryz.results9 _ _ b6 35 [.int .u64 12,.int .u64 0,.int .u64 0,.int .u64 0,.int .i64 7] (.int .i64 0) rfl rfl RZ2.out Tryz.underlying35 zaP) rfl ⟨rfl,BF⟩
theorem vB_app (a b:List (BitVec 8)):vB (a++b)=vB a++vB b:=by simp [vB]
theorem sl_nil {w:World} {A:Option Addr} {n cap:Nat} {d:List (BitVec 8)} (h:Bw w (.slice A n cap) d):A=none->n=0/\cap=0:=fun e=>by
 subst e
 rcases h.2 with ⟨h2,h0⟩|⟨g,c2,cur,hvv,_⟩
 ·simp only[Value.slice.injEq] at h2
  exact⟨h2.2.1,h2.2.2⟩
 ·cases hvv
def SP.byd (n:Nat) (d:List (BitVec 8)):SP:=⟨fun W v=>∃ N c,v=.slice (some ⟨N,0,none⟩) n c/\n<=c/\W.rangeAt N 0 (vB d),fun _ _ _ hB ⟨N,c,e,h,r⟩=>⟨N,c,e,h,zaS r hB⟩⟩
section
variable {o:Oper} {a:Act} {w:World} {K:Act->World->Prop} {Q:Exit->Act->World->Prop}
theorem wp_appb (s x:Operand) (ho:o.op=.call { callee:=.builtin .append,args:=#[s,x],argTypes:=#[22,22] }) (g g2 k m t:Nat) (d news:List (BitVec 8)) (hd:d.length=k) (hm:news.length=m) (ht:k+m=t) (h0:0<m) (hk:t<=1000) (hs:a.eval s=.slice (some ⟨g,0,none⟩) k k) (hr:Row w g (vB d) 5) (hx:a.eval x=.slice (some ⟨g2,0,none⟩) m m) (hr2:Row w g2 (vB news) 5)
 (h:∀ A c w',Bw w' (.slice A t c) (d++news)->(A=none->False)->Below w.heap.size w w'->K (a.put o.dst (.slice A t c)) w'):Oper.wp Tryz.prog o a w K Q:=by
 obtain⟨ie,z,h1,h2,h3,h5,h4⟩:=zeN
 obtain⟨v',w',hrun,r1,r2⟩:=run_append_arg_grows (P:=Tryz.prog) w 22 o.type 5 ie z 1 1 Tryz.underlying22 h1 h2 h3 h5 h4 (by decide) ⟨g,0,none⟩ k k (vB d) (by rw[zcI,hd,Nat.mul_one]) (fun j u hj=>by rw[Addr.add_mid];exact hr.all j u hj) ⟨g2,0,none⟩ m m (vB news) (by rw[zcI,hm,Nat.mul_one]) (fun j u hj=>by rw[Addr.add_mid];exact hr2.all j u hj) (by omega) (by unfold maxLen;omega) (by omega)
 have hbw:Bw w' v' (d++news):=by
  obtain⟨q1,q2⟩:=r1
  refine⟨by rw[List.length_append,hd,hm];simp [zcI,hd,hm],?_⟩
  rcases q2 with ⟨_,q3⟩|⟨g',cap',cur,q3,_,q4,q5,q6,q7,q8⟩
  ·omega
  ·refine .inr ⟨g',cap',cur,by rw[List.length_append,hd,hm];exact q3,Nat.zero_le _,q4,by rw[List.length_append,hd,hm];exact q5,q6,q7,?_⟩
   rw[List.length_append,hd,hm,vB_app]
   exact q8
 obtain⟨A,c,hv,_,_⟩:=Bw.form hbw
 rw[List.length_append,hd,hm,ht] at hv
 subst hv
 have hB:Below w.heap.size w w':=(Below.refl _ _).grown r2 (Nat.le_refl _) (fun k e=>by cases e)
 unfold Oper.wp
 simp [execOp,ho,resolve,invoke,builtin,hs,hx,hrun,Result.andThen]
 exact h A c w' hbw (fun e=>by have:=sl_nil hbw e;omega) hB
theorem zgS (ho:o.op=.buildSlice 22 0 #[]) (h:∀ W2,Row W2 w.heap.size [] 5->Below w.heap.size w W2->K (a.put o.dst (.slice (some ⟨w.heap.size,0,none⟩) 0 0)) W2):Oper.wp Tryz.prog o a w K Q:=by
 unfold Oper.wp execOp
 simp only[ho]
 go_simp
 exact h _ (Row.new' rfl rfl) ((Below.refl _ _).alloc (Nat.le_refl _) _)
theorem zpS {x:Operand} (b:Nat) (ho:o.op=.fieldAddr 33 x 0) (hx:a.eval x=.pointer (some ⟨b,0,none⟩)) (h:K (a.put o.dst (.pointer (some ⟨b,0,none⟩))) w):Oper.wp Tryz.prog o a w K Q:=by
 unfold Oper.wp execOp
 simp only[ho,hx]
 go_simp
 exact h
theorem zhQ {x:Operand} (ho:o.op=.load 22 x) (b f:Nat) (hx:a.eval x=.pointer (some ⟨b,f,none⟩)) (A:Option Addr) (n c:Nat) (hc:w.cell? ⟨b,f,none⟩=some (.slice A n c)) (h:K (a.put o.dst (.slice A n c)) w):Oper.wp Tryz.prog o a w K Q:=by
 unfold Oper.wp execOp
 simp only[ho,hx]
 go_simp
 exact h
theorem znW {x:Operand} (ho:o.op=.makeInterface 46 x) (v:Value) (hx:a.eval x=v) (h:K (a.put o.dst (.iface 46 v)) w):Oper.wp Tryz.prog o a w K Q:=by
 unfold Oper.wp execOp
 simp only[ho,hx]
 go_simp
 exact h
theorem zfL (ho:o.op=.alloc 35) (h:K (a.put o.dst (.pointer (some ⟨w.heap.size,0,none⟩))) (w.alloc (Obj.cells zR.toArray 35))):Oper.wp Tryz.prog o a w K Q:=by
 unfold Oper.wp execOp
 simp only[ho]
 go_simp
 exact h
end
abbrev R12:List Value:=[.int .u64 12,.int .u64 0,.int .u64 0,.int .u64 0,.int .i64 7]
theorem byd_bw {W:World} {A:Option Addr} {c:Nat} {d:List (BitVec 8)} (h:Bw W (.slice A 6 c) ([]++d)) (hn:A=none->False):(SP.byd 6 d).P W (.slice A 6 c):=by
 obtain⟨A',c',e,hc,_⟩:=Bw.form h
 simp only[Value.slice.injEq] at e
 obtain⟨rfl,he,rfl⟩:=e
 rcases Bw.sl h with ⟨h0,_⟩|⟨N,o,c2,e2,_,r⟩
 ·rw[h0] at he;cases he
 ·simp only[Value.slice.injEq] at e2
  obtain⟨rfl,_,_⟩:=e2
  rcases h.2 with ⟨q,_⟩|⟨g,cc,cur,q,_⟩
  ·cases q
  ·simp only[Value.slice.injEq,Option.some.injEq,Addr.mk.injEq] at q
   obtain⟨⟨rfl,rfl,_⟩,_,_⟩:=q
   exact⟨_,_,rfl,by omega,r⟩
theorem zrD:R12.toArray.all (·.oneCell')=true:=by rw[<-Array.all_toList];rfl
abbrev zC:List Value:=List.replicate 40 (.int .u8 0)++[.int .i64 0,.int .u64 0,.int .u64 0,.int .u64 0,.int .u64 0,.slice none 0 0,.int .i64 0,.int .i64 0]
theorem zlQ {w:World} {g:Nat} {e:TypeId} (s:Nat) (r:Row w g [] e):Lw w e s (.slice (some ⟨g,0,none⟩) 0 0) 0 []:=
 ⟨by simp,.inr ⟨g,0,#[],rfl,Nat.zero_le _,r,Nat.le_refl _,by unfold maxLen;omega,by simp,by simp⟩⟩
theorem zmV:(Tryz.prog.info? 64).isSome=true:=by kernel_rfl
section
variable {ops:Array Oper} {rest:List Oper} {op:Oper} {a:Act} {w:World} {Q:Exit->Act->World->Prop}
theorem zfQ (hgd:op.guard=none) (ho:op.op=.buildSlice 31 0 #[]) (h:∀ X,Row X w.heap.size [] 64->Below w.heap.size w X->X.heap.size=w.heap.size+1->wpList Tryz.prog ops Q rest (a.put op.dst (.slice (some ⟨w.heap.size,0,none⟩) 0 0)) X):wpList Tryz.prog ops Q (op :: rest) a w:=
 wpList_plain hgd fun _ hK=>by
  unfold Oper.wp execOp
  simp only[ho]
  go_simp
  exact hK _ _ (h _ (Row.new' rfl rfl) ((Below.refl _ _).alloc (Nat.le_refl _) _) (by simp))
theorem zeG (hgd:op.guard=none) (ho:op.op=.buildSlice 28 0 #[]) (h:∀ X,Row X w.heap.size [] 27->Below w.heap.size w X->X.heap.size=w.heap.size+1->wpList Tryz.prog ops Q rest (a.put op.dst (.slice (some ⟨w.heap.size,0,none⟩) 0 0)) X):wpList Tryz.prog ops Q (op :: rest) a w:=
 wpList_plain hgd fun _ hK=>by
  unfold Oper.wp execOp
  simp only[ho]
  go_simp
  exact hK _ _ (h _ (Row.new' rfl rfl) ((Below.refl _ _).alloc (Nat.le_refl _) _) (by simp))
theorem zgR (hgd:op.guard=none) (ho:op.op=.alloc 30) (h:∀ X,Row X w.heap.size zC 30->Below w.heap.size w X->X.heap.size=w.heap.size+1->wpList Tryz.prog ops Q rest (a.put op.dst (.pointer (some ⟨w.heap.size,0,none⟩))) X):wpList Tryz.prog ops Q (op :: rest) a w:=
 wpList_plain hgd fun _ hK=>by
  unfold Oper.wp execOp
  simp only[ho]
  go_simp
  exact hK _ _ (h _ (Row.new' (cs:=zC) rfl rfl) ((Below.refl _ _).alloc (Nat.le_refl _) _) (by simp))
theorem zkQ (hgd:op.guard=none) (s x:Operand) (ho:op.op=.call { callee:=.builtin .append,args:=#[s,x],argTypes:=#[31,31] }) (g:Nat) (hs:a.eval s=.slice (some ⟨g,0,none⟩) 0 0) (hx:a.eval x=.slice none 0 0) (r:Row w g [] 64)
 (h:wpList Tryz.prog ops Q rest (a.put op.dst (.slice (some ⟨g,0,none⟩) 0 0)) w):wpList Tryz.prog ops Q (op :: rest) a w:=by
 obtain⟨ie,hie⟩:=Option.isSome_iff_exists.1 zmV
 have hr:=run_append_owned_none (P:=Tryz.prog) (w:=w) 0 31 op.type 64 ie 1 Tryz.underlying31 hie (.slice (some ⟨g,0,none⟩) 0 0) 0 [] (zlQ 1 r)
 refine wpList_plain hgd fun K hK=>?_
 unfold Oper.wp execOp
 simp only[ho,resolve,invoke,builtin,Sem.run_bind,Sem.run_pure,Result.andThen_ok,List.map_toArray,List.map_cons,List.map_nil,hs,hx,hr]
 exact hK _ _ h
end
theorem zcE {P:Program} {fn:Func} {p q q2:Tmp} {ty:TypeId} {fs:Array Field} (h:fn.results=#[.cell p ty,.tmp q,.tmp q2]) (tmps:Array Value) (w:World) (g:Nat) (t:TypeId) (cs:List Value) (v v2:Value)
 (hp:tmps.getD p undef=.pointer (some ⟨g,0,none⟩)) (hv:tmps.getD q undef=v) (hv2:tmps.getD q2 undef=v2) (hg:Row w g cs t) (hu:P.underlying ty=some (.struct fs)) (hi:(P.info? ty).map (·.size)=some cs.length) :
 (results fn tmps).run P w=.ok (.tuple #[.agg cs.toArray,v,v2]) w:=by
 have hp':tmps[p]?.getD undef=.pointer (some ⟨g,0,none⟩):=by simpa using hp
 have hv':tmps[q]?.getD undef=v:=by simpa using hv
 have hv2':tmps[q2]?.getD undef=v2:=by simpa using hv2
 have hr:=run_loadVar_row (P:=P) w g t ty cs.toArray (0,0) (.struct fs) hg hu rfl (by simp [hi])
 simp [results,h,hp',hv',hv2',asAddr,hr]
theorem zqQ (gc ga:Nat) (P:List Value) (hP:P=.slice (some ⟨gc,0,none⟩) 6 6 :: (zcO (.slice (some ⟨ga,0,none⟩) 2 2)++[.slice none 0 0])) (w:World) (hg:Row w gc (vB dA) 5) (ha:w.rangeAt ga 0 (fw [5,7])):Calls Tryz.prog 6 #[.agg P.toArray,.slice none 0 0] w fun e w'=>e=.returned (.tuple #[.agg R12.toArray,.int .i64 0,.slice none 0 0])/\Below w.heap.size w w':=by
 have HP:Hid (P=.slice (some ⟨gc,0,none⟩) 6 6 :: (zcO (.slice (some ⟨ga,0,none⟩) 2 2)++[.slice none 0 0])):=hP
 have HGC:Hid (Row w gc (vB dA) 5):=hg
 have HGA0:Hid (w.rangeAt ga 0 (fw [5,7])):=ha
 obtain⟨L,hL⟩:∃ L,L=zcO (.slice (some ⟨ga,0,none⟩) 2 2):=⟨_,rfl⟩
 have HL:Hid (L=zcO (.slice (some ⟨ga,0,none⟩) 2 2)):=hL
 have HLI:Hid ((Tryz.prog.info? 30).map (·.size)=some L.length):=by show _=_;rw[hL,zeI];exact zdR
 have HLN:Hid (L.length=zC.length):=by show _=_;rw[hL];rfl
 have HLO:Hid (L.toArray.all (·.oneCell')=true):=by show _=_;rw[hL];exact zrR _ _ _
 clear hP hg ha hL
 go_enter Tryz.func6,Tryz.ntmps6
 go_upto_region 1 with (first
  |(refine zaF 33 rfl (.tmp 0) rfl P rfl ?_;intro X1 (R1:Hid (Row X1 w.heap.size P 33)) (B1:Hid (Below w.heap.size w X1)) (S1:Hid (X1.heap.size=w.heap.size+1));simp only[Act.put,jA,jB,jC])
  |(refine zaT rfl rfl ?_;intro X2 (R2:Hid (Row X2 X1.heap.size zR 35)) (B2:Hid (Below X1.heap.size X1 X2)) (S2:Hid (X2.heap.size=X1.heap.size+1));simp only[Act.put,jA,jB,jC]))
 obtain⟨b2,hb2⟩:∃ b,b=w.heap.size:=⟨_,rfl⟩
 obtain⟨b4,hb4⟩:∃ b,b=X1.heap.size:=⟨_,rfl⟩
 have N24:Hid (b4=b2+1):=by show _=_;rw[hb4,hb2];exact S1.out
 have BB:Hid (Below w.heap.size w X2):=B1.out.trans (B2.out.mono B1.out.size)
 have RP:Hid (Row X2 b2 P 33):=by rw[hb2];exact Row.below R1.out B2.out R1.out.lt
 have RR:Hid (Row X2 b4 zR 35):=by rw[hb4];exact R2.out
 have SS:Hid (X2.heap.size=b4+1):=by rw[hb4];exact S2.out
 have HB2:Hid (b2=w.heap.size):=hb2
 rw[<-hb2,<-hb4]
 clear hb2 hb4 R1 B1 S1 R2 B2 S2
 go_upto_region 2 with (first
  |(refine zfQ rfl rfl ?_;intro X3 q1 q2 q3;have RY:Hid (Row X3 X2.heap.size [] 64):=q1;have B3:Hid (Below X2.heap.size X2 X3):=q2;have S3:Hid (X3.heap.size=X2.heap.size+1):=q3;have c49:X3.cell? ⟨b2,49,none⟩=some (.slice none 0 0):=(Row.below RP.out q2 RP.out.lt).cell 49 _ (by rw[HP.out];rfl);clear q1 q2 q3;simp only[Act.put,jA,jB,jC])
  |(refine zkQ rfl (.tmp 11) (.tmp 13) rfl X2.heap.size rfl rfl RY.out ?_;simp only[Act.put,jA,jB,jC])
  |(refine zaF 48 rfl (.tmp 16) rfl [.slice (some ⟨X2.heap.size,0,none⟩) 0 0,.slice none 0 0,.slice none 0 0] rfl ?_;intro X4 (RH:Hid (Row X4 X3.heap.size [.slice (some ⟨X2.heap.size,0,none⟩) 0 0,.slice none 0 0,.slice none 0 0] 48)) (B4:Hid (Below X3.heap.size X3 X4)) (S4:Hid (X4.heap.size=X3.heap.size+1));simp only[Act.put,jA,jB,jC]))
 obtain⟨gr,hgr⟩:∃ b,b=X2.heap.size:=⟨_,rfl⟩
 obtain⟨hb,hhb⟩:∃ b,b=X3.heap.size:=⟨_,rfl⟩
 rw[<-hhb,<-hgr] at RH
 rw[<-hhb]
 have N3:Hid (gr=b4+1):=by show _=_;rw[hgr];exact SS.out
 have N4:Hid (hb=gr+1):=by show _=_;rw[hhb,hgr];exact S3.out
 have k34:Below X2.heap.size X2 X4:=B3.out.trans (B4.out.mono B3.out.size)
 have BB4:Hid (Below w.heap.size w X4):=BB.out.trans (k34.mono BB.out.size)
 have RP4:Hid (Row X4 b2 P 33):=Row.below RP.out k34 RP.out.lt
 have RR4:Hid (Row X4 b4 zR 35):=Row.below RR.out k34 RR.out.lt
 have SS4:Hid (X4.heap.size=hb+1):=by rw[hhb];exact S4.out
 have RG4:Hid (X4.rangeAt b2 1 L):=RP4.out.range 1 L (fun j v hj=>by
  rw[HP.out,show 1+j=j+1 by omega,List.getElem?_cons_succ,<-HL.out,List.getElem?_append_left (List.getElem?_eq_some_iff.1 hj).1]
  exact hj)
 clear hgr hhb k34 B3 B4 S3 S4 RY c49 BB RP RR SS
 go_upto_region 3 with (first
  |(refine zaG rfl 30 (.tmp 18) rfl b2 1 rfl L _ RG4.out Tryz.underlying30 rfl HLI.out ?_;simp only[Act.put,jA,jB,jC])
  |(refine zgR rfl rfl ?_;intro X5 (RC5:Hid (Row X5 X4.heap.size zC 30)) (B5:Hid (Below X4.heap.size X4 X5)) (S5:Hid (X5.heap.size=X4.heap.size+1));simp only[Act.put,jA,jB,jC])
  |(refine zaD rfl 30 (.tmp 8) (.tmp 19) rfl X4.heap.size L zC 30 rfl rfl RC5.out HLN.out HLI.out HLO.out ?_;intro X6 (E6:Hid (X6=_)) (RC6:Hid (Row X6 X4.heap.size L 30));simp only[Act.put]))
 obtain⟨b8,hb8⟩:∃ b,b=X4.heap.size:=⟨_,rfl⟩
 have k6:Below X4.heap.size X4 X6:=by rw[E6.out];exact zaC B5.out (Nat.le_refl _) _
 have BB6:Hid (Below w.heap.size w X6):=BB4.out.trans (k6.mono BB4.out.size)
 have RP6:Hid (Row X6 b2 P 33):=Row.below RP4.out k6 RP4.out.lt
 have RR6:Hid (Row X6 b4 zR 35):=Row.below RR4.out k6 RR4.out.lt
 have RH6:Hid (Row X6 hb [.slice (some ⟨gr,0,none⟩) 0 0,.slice none 0 0,.slice none 0 0] 48):=Row.below RH.out k6 RH.out.lt
 have N8:Hid (b8=hb+1):=by show _=_;rw[hb8];exact SS4.out
 rw[<-hb8] at RC6
 rw[<-hb8]
 have HL45:Hid (45<L.length):=by show _<_;rw[HL.out,zeI];decide
 clear hb8 k6 E6 RC5 B5 S5 RG4 BB4 RP4 RR4 RH SS4
 go_upto_region 4 with (first
  |(refine zeG rfl rfl ?_;intro X7 q1 q2 q3;have RE7:Hid (Row X7 X6.heap.size [] 27):=q1;have B7:Hid (Below X6.heap.size X6 X7):=q2;have c46:X7.cell? ⟨b2,46,none⟩=some (.slice (some ⟨ga,0,none⟩) 2 2):=(Row.below RP6.out q2 RP6.out.lt).cell 46 _ (by rw[HP.out];rfl);clear q1 q2 q3;simp only[Act.put,jA,jB,jC])
  |(refine ziQ 28 27 4 32 Tryz.underlying28 zbO (by decide) rfl (.tmp 20) (.tmp 23) rfl (.slice (some ⟨X6.heap.size,0,none⟩) 0 0) 0 [] (fw [5,7]) rfl (zlQ 4 RE7.out) ga 2 2 (by rw[zfO];rfl) rfl (zaS HGA0.out (BB6.out.trans (B7.out.mono BB6.out.size))) (fw_one _) (by unfold maxLen;omega) (by decide) ?_;intro v8 X8 q1 q2 q3;obtain⟨g8,c8,e8,h8⟩:=Lw.open q1 (by decide);(have e9:v8=.slice (some ⟨g8,0,none⟩) 2 c8:=e8);clear e8;subst e9;have LA8:Hid (Lw X8 27 4 (.slice (some ⟨g8,0,none⟩) 2 c8) 2 (fw [5,7])):=q1;have B8:Hid (Below X6.heap.size X6 X8):=zdW B7.out q2 (fun k e=>by simp [Value.ownBlock] at e;omega);have RC8:Hid (Row X8 b8 L 30):=Row.below RC6.out (zdW B7.out q2 (fun k e=>by simp [Value.ownBlock] at e;omega)) RC6.out.lt;clear q1 q2 q3 h8;simp only[Act.put,jA,jB,jC])
  |(refine zbI rfl 28 (.tmp 25) (.tmp 24) rfl b8 45 (.slice (some ⟨g8,0,none⟩) 2 c8) L 30 rfl rfl rfl RC8.out HL45.out zgU rfl ?_;intro X (RCX:Hid (Row X b8 (L.set 45 (.slice (some ⟨g8,0,none⟩) 2 c8)) 30)) (GX:Hid (Gro (·=b8) X8 X)) q3;clear q3;simp only[Act.put]))
 obtain⟨M,hM⟩:∃ M,M=zcO (.slice (some ⟨g8,0,none⟩) 2 c8):=⟨_,rfl⟩
 have HM:Hid (M=zcO (.slice (some ⟨g8,0,none⟩) 2 c8)):=hM
 have HMI:Hid ((Tryz.prog.info? 30).map (·.size)=some M.length):=by show _=_;rw[hM,zeI];exact zdR
 have HGA:Hid (X.rangeAt g8 0 (fw [5,7])):=Lw.range (Lw.gro LA8.out GX.out (Lw.ne LA8.out RC8.out (by decide)))
 have m2:b2<b8:=by have h1:=N24.out;have h2:=N3.out;have h3:=N4.out;have h4:=N8.out;omega
 have m4:b4<b8:=by have h2:=N3.out;have h3:=N4.out;have h4:=N8.out;omega
 have mh:hb<b8:=by have h4:=N8.out;omega
 have rp:Row X b2 P 33:=GX.out.row (Row.below RP6.out B8.out RP6.out.lt) (by omega)
 have r4:Row X b4 zR 35:=GX.out.row (Row.below RR6.out B8.out RR6.out.lt) (by omega)
 have rh:Row X hb [.slice (some ⟨gr,0,none⟩) 0 0,.slice none 0 0,.slice none 0 0] 48:=GX.out.row (Row.below RH6.out B8.out RH6.out.lt) (by omega)
 have rcl:Row X b8 M 30:=by rw[hM,<-zlA (.slice (some ⟨ga,0,none⟩) 2 2),<-HL.out];exact RCX.out
 have BX:Hid (Below w.heap.size w X):=(BB6.out.trans (B8.out.mono BB6.out.size)).trans (GX.out.to_below (Nat.le_trans BB6.out.size B8.out.size) (fun k e=>by rw[e];have:=HB2.out;omega))
 have rg:Row X gc (vB dA) 5:=Row.below HGC.out BX.out HGC.out.lt
 have hgc:gc<b2:=by rw[HB2.out];exact HGC.out.lt
 have hb1:Below X.heap.size X X:=Below.refl _ _
 obtain⟨T0,hT0⟩:∃ T,T+1=X.heap.size:=⟨X.heap.size-1,by have:=rp.lt;omega⟩
 have l2:b2<=T0:=by have:=rp.lt;omega
 have l4:b4<=T0:=by have:=r4.lt;omega
 have lh:hb<=T0:=by have:=rh.lt;omega
 have l8:b8<=T0:=by have:=rcl.lt;omega
 have lg:gc<=T0:=by have:=rg.lt;omega
 clear hM RCX GX LA8 B8 RC8 RE7 B7 c46 RP6 RR6 RH6 RC6 BB6
 refine zeB fun a0 ha0=>?_
 have hsz:a0.tmps.size=43:=by rw[ha0];rfl
 have zs2:a0.eval (.tmp 2)=.pointer (some ⟨b2,0,none⟩):=by rw[ha0];rfl
 have zs7:a0.eval (.tmp 7)=.pointer (some ⟨hb,0,none⟩):=by rw[ha0];rfl
 have zs8:a0.eval (.tmp 8)=.pointer (some ⟨b8,0,none⟩):=by rw[ha0];rfl
 obtain⟨D,hD⟩:∃ D:List (Tmp × SP),D=[(27,SP.any),(28,SP.is (.pointer (some ⟨b2,0,none⟩))),(29,SP.is (.slice (some ⟨gc,0,none⟩) 6 6)),(30,SP.any),(31,SP.is (.agg M.toArray)),(32,SP.is (.pointer (some ⟨hb,0,none⟩))),(33,SP.is (.iface 46 (.pointer (some ⟨hb,0,none⟩)))),(34,SP.is (.tuple #[.agg R12.toArray,.int .i64 0])),(26,SP.is (.tuple #[.agg R12.toArray,.int .i64 0])),(35,SP.is (.agg R12.toArray)),(36,SP.is (.int .i64 0)),(9,SP.any),(1000,SP.any),(10,SP.is (.int .i64 0))]:=⟨_,rfl⟩
 refine zbV (by kernel_rfl) (fun listed ac W=>∃ (b:Nat),listed.size=14/\Fp D a0 listed ac W/\Below X.heap.size X W/\Row W b2 P 33/\Row W b8 M 30/\Row W hb ([.slice (some ⟨gr,0,none⟩) 0 0,.slice none 0 0,.slice none 0 0]) 48/\Row W gc ((vB dA)) 5/\Row W b4 zR 35/\(listed.getD 11 false=true->ac.eval (.tmp 9)=.pointer (some ⟨b,0,none⟩)/\T0<b/\Row W b (if listed.getD 12 false=true then R12 else zR) 35)/\(listed.getD 12 false=true->listed.getD 11 false=true)/\(listed.getD 0 false=true->¬ listed.getD 3 false=true->(SP.new 0 0 [] 5).P W (ac.eval (.tmp 27)))/\(listed.getD 3 false=true->¬ listed.getD 7 false=true->(SP.byd 6 dA).P W (ac.eval (.tmp 30)))) ?_ ?_ ?_
 ·exact⟨0,by simp,Fp.start D a0 _ _,Below.drew hb1,Row.drew rp,Row.drew rcl,Row.drew rh,Row.drew rg,Row.drew r4,(fun h=>(zbK h).elim),(fun h=>(zbK h).elim),(fun h _=>(zbK h).elim),(fun h _=>(zbK h).elim)⟩
 ·clear ha0 hb1 rp rcl rh rg r4
  intro listed ac W k hI hdn hk
  obtain⟨b,hl,hF,hb1,rp,rcl,rh,rg,r4,al11,as11,ti0,ti3⟩:=hI
  have hk1:k<14:=List.mem_range.1 (List.mem_filter.1 hk).1
  have hl2:∀ j,(listed.setIfInBounds j true).size=14:=fun j=>by rw[Array.size_setIfInBounds];exact hl
  rcases (show k=0\/k=1\/k=2\/k=3\/k=4\/k=5\/k=6\/k=7\/k=8\/k=9\/k=10\/k=11\/k=12\/k=13 by omega) with rfl|rfl|rfl|rfl|rfl|rfl|rfl|rfl|rfl|rfl|rfl|rfl|rfl|rfl
  ·have hk3:=hk
   refine zaE rfl rfl (zgS rfl ?_)
   intro W2 q hB
   exact⟨b,hl2 0,((hF.world hB).put 0 27 (SP.any) (.slice (some ⟨W.heap.size,0,none⟩) 0 0) (by rw[hD];rfl) trivial (by rw[hD];rfl) (by rw[hsz];decide) (by rw[hl];decide)),hb1.trans (hB.mono hb1.size),Row.below rp hB (Row.lt rp),Row.below rcl hB (Row.lt rcl),Row.below rh hB (Row.lt rh),Row.below rg hB (Row.lt rg),Row.below r4 hB (Row.lt r4),(fun h=>⟨(zaB ac _ (by decide)).trans ((al11 (by rwa [zaA _ _ _ (by decide)] at h)).1),(al11 (by rwa [zaA _ _ _ (by decide)] at h)).2.1,by rw[zaA _ _ _ (by decide)];exact Row.below (al11 (by rwa [zaA _ _ _ (by decide)] at h)).2.2 hB (Row.lt (al11 (by rwa [zaA _ _ _ (by decide)] at h)).2.2)⟩),(fun h=>by rw[zaA _ _ _ (by decide)];exact as11 (by rwa [zaA _ _ _ (by decide)] at h)),(fun _ _=>by change (SP.new 0 0 [] 5).P _ ((ac.put (some 27) _).eval (.tmp 27));rw[zaR ac _ (by rw[hF.size,hsz];decide)];exact⟨_,rfl,q⟩),(fun h1 h2=>by change (SP.byd 6 dA).P _ ((ac.put (some 27) _).eval (.tmp 30));rw[zaB ac _ (by decide)];exact (SP.byd 6 dA).st _ _ _ hB (ti3 (by rwa [zaA _ _ _ (by decide)] at h1) (by rwa [zaA _ _ _ (by decide)] at h2)))⟩
  ·have hk3:=hk
   have e2:=((hF.keep 2 (by rw[hD];rfl)).trans zs2)
   exact zaE rfl rfl (zpS b2 rfl e2 ⟨b,hl2 1,(hF.put 1 28 (SP.is (.pointer (some ⟨b2,0,none⟩))) (.pointer (some ⟨b2,0,none⟩)) (by rw[hD];rfl) rfl (by rw[hD];rfl) (by rw[hsz];decide) (by rw[hl];decide)),hb1,rp,rcl,rh,rg,r4,(fun h=>⟨(zaB ac _ (by decide)).trans ((al11 (by rwa [zaA _ _ _ (by decide)] at h)).1),(al11 (by rwa [zaA _ _ _ (by decide)] at h)).2.1,by rw[zaA _ _ _ (by decide)];exact (al11 (by rwa [zaA _ _ _ (by decide)] at h)).2.2⟩),(fun h=>by rw[zaA _ _ _ (by decide)];exact as11 (by rwa [zaA _ _ _ (by decide)] at h)),(fun h1 h2=>by change (SP.new 0 0 [] 5).P _ ((ac.put (some 28) _).eval (.tmp 27));rw[zaB ac _ (by decide)];exact ti0 (by rwa [zaA _ _ _ (by decide)] at h1) (by rwa [zaA _ _ _ (by decide)] at h2)),(fun h1 h2=>by change (SP.byd 6 dA).P _ ((ac.put (some 28) _).eval (.tmp 30));rw[zaB ac _ (by decide)];exact ti3 (by rwa [zaA _ _ _ (by decide)] at h1) (by rwa [zaA _ _ _ (by decide)] at h2))⟩)
  ·have hk3:=hk
   have e28:=(hF.done 1 (28,SP.is (.pointer (some ⟨b2,0,none⟩))) (by rw[hD];rfl) (zaI hk 1 (by kernel_rfl)))
   exact zaE rfl rfl (zhQ rfl b2 0 e28 _ 6 6 (rp.cell 0 _ (by rw[HP.out];rfl)) ⟨b,hl2 2,(hF.put 2 29 (SP.is (.slice (some ⟨gc,0,none⟩) 6 6)) (.slice (some ⟨gc,0,none⟩) 6 6) (by rw[hD];rfl) rfl (by rw[hD];rfl) (by rw[hsz];decide) (by rw[hl];decide)),hb1,rp,rcl,rh,rg,r4,(fun h=>⟨(zaB ac _ (by decide)).trans ((al11 (by rwa [zaA _ _ _ (by decide)] at h)).1),(al11 (by rwa [zaA _ _ _ (by decide)] at h)).2.1,by rw[zaA _ _ _ (by decide)];exact (al11 (by rwa [zaA _ _ _ (by decide)] at h)).2.2⟩),(fun h=>by rw[zaA _ _ _ (by decide)];exact as11 (by rwa [zaA _ _ _ (by decide)] at h)),(fun h1 h2=>by change (SP.new 0 0 [] 5).P _ ((ac.put (some 29) _).eval (.tmp 27));rw[zaB ac _ (by decide)];exact ti0 (by rwa [zaA _ _ _ (by decide)] at h1) (by rwa [zaA _ _ _ (by decide)] at h2)),(fun h1 h2=>by change (SP.byd 6 dA).P _ ((ac.put (some 29) _).eval (.tmp 30));rw[zaB ac _ (by decide)];exact ti3 (by rwa [zaA _ _ _ (by decide)] at h1) (by rwa [zaA _ _ _ (by decide)] at h2))⟩)
  ·have hk3:=hk
   obtain⟨N7,e27,r27⟩:=(ti0 (zaI hk 0 (by kernel_rfl)) (zbD hk))
   have e29:=(hF.done 2 (29,SP.is (.slice (some ⟨gc,0,none⟩) 6 6)) (by rw[hD];rfl) (zaI hk 2 (by kernel_rfl)))
   refine zaE rfl rfl (wp_appb (.tmp 27) (.tmp 29) rfl N7 gc 0 6 6 [] dA rfl rfl rfl (by decide) (by decide) e27 r27 e29 rg ?_)
   intro A c W2 hbw hne hB
   exact⟨b,hl2 3,((hF.world hB).put 3 30 (SP.any) (.slice A 6 c) (by rw[hD];rfl) trivial (by rw[hD];rfl) (by rw[hsz];decide) (by rw[hl];decide)),hb1.trans (hB.mono hb1.size),Row.below rp hB (Row.lt rp),Row.below rcl hB (Row.lt rcl),Row.below rh hB (Row.lt rh),Row.below rg hB (Row.lt rg),Row.below r4 hB (Row.lt r4),(fun h=>⟨(zaB ac _ (by decide)).trans ((al11 (by rwa [zaA _ _ _ (by decide)] at h)).1),(al11 (by rwa [zaA _ _ _ (by decide)] at h)).2.1,by rw[zaA _ _ _ (by decide)];exact Row.below (al11 (by rwa [zaA _ _ _ (by decide)] at h)).2.2 hB (Row.lt (al11 (by rwa [zaA _ _ _ (by decide)] at h)).2.2)⟩),(fun h=>by rw[zaA _ _ _ (by decide)];exact as11 (by rwa [zaA _ _ _ (by decide)] at h)),(fun _ h=>absurd (zbC (by rw[hl];decide)) h),(fun _ _=>by change (SP.byd 6 dA).P _ ((ac.put (some 30) _).eval (.tmp 30));rw[zaR ac _ (by rw[hF.size,hsz];decide)];exact (byd_bw hbw hne))⟩
  ·have hk3:=hk
   exact zaE rfl rfl (wp_load_mid 30 (.tmp 8) rfl b8 0 ((hF.keep 8 (by rw[hD];rfl)).trans zs8) M _ rcl.all Tryz.underlying30 rfl HMI.out ⟨b,hl2 4,(hF.put 4 31 (SP.is (.agg M.toArray)) (.agg M.toArray) (by rw[hD];rfl) rfl (by rw[hD];rfl) (by rw[hsz];decide) (by rw[hl];decide)),hb1,rp,rcl,rh,rg,r4,(fun h=>⟨(zaB ac _ (by decide)).trans ((al11 (by rwa [zaA _ _ _ (by decide)] at h)).1),(al11 (by rwa [zaA _ _ _ (by decide)] at h)).2.1,by rw[zaA _ _ _ (by decide)];exact (al11 (by rwa [zaA _ _ _ (by decide)] at h)).2.2⟩),(fun h=>by rw[zaA _ _ _ (by decide)];exact as11 (by rwa [zaA _ _ _ (by decide)] at h)),(fun h1 h2=>by change (SP.new 0 0 [] 5).P _ ((ac.put (some 31) _).eval (.tmp 27));rw[zaB ac _ (by decide)];exact ti0 (by rwa [zaA _ _ _ (by decide)] at h1) (by rwa [zaA _ _ _ (by decide)] at h2)),(fun h1 h2=>by change (SP.byd 6 dA).P _ ((ac.put (some 31) _).eval (.tmp 30));rw[zaB ac _ (by decide)];exact ti3 (by rwa [zaA _ _ _ (by decide)] at h1) (by rwa [zaA _ _ _ (by decide)] at h2))⟩)
  ·have hk3:=hk
   exact zaE rfl rfl (zbJ (ac.eval (.tmp 7)) rfl rfl ⟨b,hl2 5,(hF.put 5 32 (SP.is (.pointer (some ⟨hb,0,none⟩))) (ac.eval (.tmp 7)) (by rw[hD];rfl) (((hF.keep 7 (by rw[hD];rfl)).trans zs7)) (by rw[hD];rfl) (by rw[hsz];decide) (by rw[hl];decide)),hb1,rp,rcl,rh,rg,r4,(fun h=>⟨(zaB ac _ (by decide)).trans ((al11 (by rwa [zaA _ _ _ (by decide)] at h)).1),(al11 (by rwa [zaA _ _ _ (by decide)] at h)).2.1,by rw[zaA _ _ _ (by decide)];exact (al11 (by rwa [zaA _ _ _ (by decide)] at h)).2.2⟩),(fun h=>by rw[zaA _ _ _ (by decide)];exact as11 (by rwa [zaA _ _ _ (by decide)] at h)),(fun h1 h2=>by change (SP.new 0 0 [] 5).P _ ((ac.put (some 32) _).eval (.tmp 27));rw[zaB ac _ (by decide)];exact ti0 (by rwa [zaA _ _ _ (by decide)] at h1) (by rwa [zaA _ _ _ (by decide)] at h2)),(fun h1 h2=>by change (SP.byd 6 dA).P _ ((ac.put (some 32) _).eval (.tmp 30));rw[zaB ac _ (by decide)];exact ti3 (by rwa [zaA _ _ _ (by decide)] at h1) (by rwa [zaA _ _ _ (by decide)] at h2))⟩)
  ·have hk3:=hk
   have e32:=(hF.done 5 (32,SP.is (.pointer (some ⟨hb,0,none⟩))) (by rw[hD];rfl) (zaI hk 5 (by kernel_rfl)))
   exact zaE rfl rfl (znW rfl (.pointer (some ⟨hb,0,none⟩)) e32 ⟨b,hl2 6,(hF.put 6 33 (SP.is (.iface 46 (.pointer (some ⟨hb,0,none⟩)))) (.iface 46 (.pointer (some ⟨hb,0,none⟩))) (by rw[hD];rfl) rfl (by rw[hD];rfl) (by rw[hsz];decide) (by rw[hl];decide)),hb1,rp,rcl,rh,rg,r4,(fun h=>⟨(zaB ac _ (by decide)).trans ((al11 (by rwa [zaA _ _ _ (by decide)] at h)).1),(al11 (by rwa [zaA _ _ _ (by decide)] at h)).2.1,by rw[zaA _ _ _ (by decide)];exact (al11 (by rwa [zaA _ _ _ (by decide)] at h)).2.2⟩),(fun h=>by rw[zaA _ _ _ (by decide)];exact as11 (by rwa [zaA _ _ _ (by decide)] at h)),(fun h1 h2=>by change (SP.new 0 0 [] 5).P _ ((ac.put (some 33) _).eval (.tmp 27));rw[zaB ac _ (by decide)];exact ti0 (by rwa [zaA _ _ _ (by decide)] at h1) (by rwa [zaA _ _ _ (by decide)] at h2)),(fun h1 h2=>by change (SP.byd 6 dA).P _ ((ac.put (some 33) _).eval (.tmp 30));rw[zaB ac _ (by decide)];exact ti3 (by rwa [zaA _ _ _ (by decide)] at h1) (by rwa [zaA _ _ _ (by decide)] at h2))⟩)
  ·have hk3:=hk
   obtain⟨NN8,cN8,e30,h8,r30⟩:=(ti3 (zaI hk 3 (by kernel_rfl)) (zbD hk))
   have e31:=(hF.done 4 (31,SP.is (.agg M.toArray)) (by rw[hD];rfl) (zaI hk 4 (by kernel_rfl)))
   have e33:=(hF.done 6 (33,SP.is (.iface 46 (.pointer (some ⟨hb,0,none⟩)))) (by rw[hD];rfl) (zaI hk 6 (by kernel_rfl)))
   refine zaE rfl rfl (zfM 9 #[.slice (some ⟨NN8,0,none⟩) 6 cN8,.agg M.toArray,.iface 46 (.pointer (some ⟨hb,0,none⟩))] rfl rfl (by show [ac.eval (.tmp 30),ac.eval (.tmp 31),ac.eval (.tmp 33)]=_;rw[show ac.eval (.tmp 30)=_ from e30,show ac.eval (.tmp 31)=_ from e31,show ac.eval (.tmp 33)=_ from e33]) (by go_simp) ((zuD NN8 cN8 g8 c8 hb h8 46 M HM.out W r30 (zaS HGA.out hb1)).mono ?_))
   rintro e W2 ⟨rfl,hB⟩
   exact⟨_,rfl,b,hl2 7,((hF.world hB).put 7 34 (SP.is (.tuple #[.agg R12.toArray,.int .i64 0])) (.tuple #[.agg R12.toArray,.int .i64 0]) (by rw[hD];rfl) rfl (by rw[hD];rfl) (by rw[hsz];decide) (by rw[hl];decide)),hb1.trans (hB.mono hb1.size),Row.below rp hB (Row.lt rp),Row.below rcl hB (Row.lt rcl),Row.below rh hB (Row.lt rh),Row.below rg hB (Row.lt rg),Row.below r4 hB (Row.lt r4),(fun h=>⟨(zaB ac _ (by decide)).trans ((al11 (by rwa [zaA _ _ _ (by decide)] at h)).1),(al11 (by rwa [zaA _ _ _ (by decide)] at h)).2.1,by rw[zaA _ _ _ (by decide)];exact Row.below (al11 (by rwa [zaA _ _ _ (by decide)] at h)).2.2 hB (Row.lt (al11 (by rwa [zaA _ _ _ (by decide)] at h)).2.2)⟩),(fun h=>by rw[zaA _ _ _ (by decide)];exact as11 (by rwa [zaA _ _ _ (by decide)] at h)),(fun h1 h2=>by change (SP.new 0 0 [] 5).P _ ((ac.put (some 34) _).eval (.tmp 27));rw[zaB ac _ (by decide)];exact (SP.new 0 0 [] 5).st _ _ _ hB (ti0 (by rwa [zaA _ _ _ (by decide)] at h1) (by rwa [zaA _ _ _ (by decide)] at h2))),(fun _ h=>absurd (zbC (by rw[hl];decide)) h)⟩
  ·have hk3:=hk
   exact zaE rfl rfl (zbJ (ac.eval (.tmp 34)) rfl rfl ⟨b,hl2 8,(hF.put 8 26 (SP.is (.tuple #[.agg R12.toArray,.int .i64 0])) (ac.eval (.tmp 34)) (by rw[hD];rfl) ((hF.done 7 (34,SP.is (.tuple #[.agg R12.toArray,.int .i64 0])) (by rw[hD];rfl) (zaI hk 7 (by kernel_rfl)))) (by rw[hD];rfl) (by rw[hsz];decide) (by rw[hl];decide)),hb1,rp,rcl,rh,rg,r4,(fun h=>⟨(zaB ac _ (by decide)).trans ((al11 (by rwa [zaA _ _ _ (by decide)] at h)).1),(al11 (by rwa [zaA _ _ _ (by decide)] at h)).2.1,by rw[zaA _ _ _ (by decide)];exact (al11 (by rwa [zaA _ _ _ (by decide)] at h)).2.2⟩),(fun h=>by rw[zaA _ _ _ (by decide)];exact as11 (by rwa [zaA _ _ _ (by decide)] at h)),(fun h1 h2=>by change (SP.new 0 0 [] 5).P _ ((ac.put (some 26) _).eval (.tmp 27));rw[zaB ac _ (by decide)];exact ti0 (by rwa [zaA _ _ _ (by decide)] at h1) (by rwa [zaA _ _ _ (by decide)] at h2)),(fun h1 h2=>by change (SP.byd 6 dA).P _ ((ac.put (some 26) _).eval (.tmp 30));rw[zaB ac _ (by decide)];exact ti3 (by rwa [zaA _ _ _ (by decide)] at h1) (by rwa [zaA _ _ _ (by decide)] at h2))⟩)
  ·have hk3:=hk
   exact zaE rfl rfl (zbZ (.tmp 26) 0 rfl #[.agg R12.toArray,.int .i64 0] (hF.done 8 (26,SP.is (.tuple #[.agg R12.toArray,.int .i64 0])) (by rw[hD];rfl) (zaI hk 8 (by kernel_rfl))) (.agg R12.toArray) rfl ⟨b,hl2 9,(hF.put 9 35 (SP.is (.agg R12.toArray)) (.agg R12.toArray) (by rw[hD];rfl) rfl (by rw[hD];rfl) (by rw[hsz];decide) (by rw[hl];decide)),hb1,rp,rcl,rh,rg,r4,(fun h=>⟨(zaB ac _ (by decide)).trans ((al11 (by rwa [zaA _ _ _ (by decide)] at h)).1),(al11 (by rwa [zaA _ _ _ (by decide)] at h)).2.1,by rw[zaA _ _ _ (by decide)];exact (al11 (by rwa [zaA _ _ _ (by decide)] at h)).2.2⟩),(fun h=>by rw[zaA _ _ _ (by decide)];exact as11 (by rwa [zaA _ _ _ (by decide)] at h)),(fun h1 h2=>by change (SP.new 0 0 [] 5).P _ ((ac.put (some 35) _).eval (.tmp 27));rw[zaB ac _ (by decide)];exact ti0 (by rwa [zaA _ _ _ (by decide)] at h1) (by rwa [zaA _ _ _ (by decide)] at h2)),(fun h1 h2=>by change (SP.byd 6 dA).P _ ((ac.put (some 35) _).eval (.tmp 30));rw[zaB ac _ (by decide)];exact ti3 (by rwa [zaA _ _ _ (by decide)] at h1) (by rwa [zaA _ _ _ (by decide)] at h2))⟩)
  ·have hk3:=hk
   exact zaE rfl rfl (zbZ (.tmp 26) 1 rfl #[.agg R12.toArray,.int .i64 0] (hF.done 8 (26,SP.is (.tuple #[.agg R12.toArray,.int .i64 0])) (by rw[hD];rfl) (zaI hk 8 (by kernel_rfl))) (.int .i64 0) rfl ⟨b,hl2 10,(hF.put 10 36 (SP.is (.int .i64 0)) (.int .i64 0) (by rw[hD];rfl) rfl (by rw[hD];rfl) (by rw[hsz];decide) (by rw[hl];decide)),hb1,rp,rcl,rh,rg,r4,(fun h=>⟨(zaB ac _ (by decide)).trans ((al11 (by rwa [zaA _ _ _ (by decide)] at h)).1),(al11 (by rwa [zaA _ _ _ (by decide)] at h)).2.1,by rw[zaA _ _ _ (by decide)];exact (al11 (by rwa [zaA _ _ _ (by decide)] at h)).2.2⟩),(fun h=>by rw[zaA _ _ _ (by decide)];exact as11 (by rwa [zaA _ _ _ (by decide)] at h)),(fun h1 h2=>by change (SP.new 0 0 [] 5).P _ ((ac.put (some 36) _).eval (.tmp 27));rw[zaB ac _ (by decide)];exact ti0 (by rwa [zaA _ _ _ (by decide)] at h1) (by rwa [zaA _ _ _ (by decide)] at h2)),(fun h1 h2=>by change (SP.byd 6 dA).P _ ((ac.put (some 36) _).eval (.tmp 30));rw[zaB ac _ (by decide)];exact ti3 (by rwa [zaA _ _ _ (by decide)] at h1) (by rwa [zaA _ _ _ (by decide)] at h2))⟩)
  ·have hk3:=hk
   have hsm:T0<W.heap.size:=(by have:=hb1.size;omega)
   have hB:Below W.heap.size W (W.alloc (Obj.cells zR.toArray 35)):=(Below.refl _ _).alloc (Nat.le_refl _) _
   have hns:¬ listed.getD 12 false=true:=fun h=>zbD hk (as11 h)
   exact zaE rfl rfl (zfL rfl ⟨W.heap.size,hl2 11,((hF.world hB).put 11 9 (SP.any) (.pointer (some ⟨W.heap.size,0,none⟩)) (by rw[hD];rfl) trivial (by rw[hD];rfl) (by rw[hsz];decide) (by rw[hl];decide)),hb1.alloc hb1.size _,Row.alloc rp _,Row.alloc rcl _,Row.alloc rh _,Row.alloc rg _,Row.alloc r4 _,(fun _=>⟨zaR ac _ (by rw[hF.size,hsz];decide),hsm,by rw[zaA _ _ _ (by decide),if_neg hns];exact Row.new' rfl rfl⟩),(fun _=>zbC (by rw[hl];decide)),(fun h1 h2=>by change (SP.new 0 0 [] 5).P _ ((ac.put (some 9) _).eval (.tmp 27));rw[zaB ac _ (by decide)];exact (SP.new 0 0 [] 5).st _ _ _ hB (ti0 (by rwa [zaA _ _ _ (by decide)] at h1) (by rwa [zaA _ _ _ (by decide)] at h2))),(fun h1 h2=>by change (SP.byd 6 dA).P _ ((ac.put (some 9) _).eval (.tmp 30));rw[zaB ac _ (by decide)];exact (SP.byd 6 dA).st _ _ _ hB (ti3 (by rwa [zaA _ _ _ (by decide)] at h1) (by rwa [zaA _ _ _ (by decide)] at h2)))⟩)
  ·have hk3:=hk
   have hal:=zaI hk 11 (by kernel_rfl)
   obtain⟨e1,m1,y2⟩:=al11 hal
   rw[if_neg (zbD hk)] at y2
   have T:=y2.there 0 R12.toArray.size (by decide)
   have fin:=y2.over (vs:=R12) rfl
   have hT:Fp D a0 listed ac (W.setCells b 0 R12):=hF.turn (by rw[hD];simp only[List.forall_mem_cons,List.not_mem_nil,false_implies,implies_true,and_true];exact⟨fun _ h=>h,fun _ h=>h,fun _ h=>h,fun _ h=>h,fun _ h=>h,fun _ h=>h,fun _ h=>h,fun _ h=>h,fun _ h=>h,fun _ h=>h,fun _ h=>h,fun _ h=>h,fun _ h=>h,fun _ h=>h⟩)
   exact zaE rfl rfl (wp_store_mid 35 (.tmp 9) (.tmp 35) rfl b 0 R12.toArray e1 (hF.done 9 (35,SP.is (.agg R12.toArray)) (by rw[hD];rfl) (zaI hk 9 (by kernel_rfl))) T zaP zrD ⟨b,hl2 12,(hT.skip 12 1000 (by rw[hD];rfl) (by rw[hl];decide)),zaC hb1 (by omega) _,Row.setCells_other rp _ _ _ (by omega),Row.setCells_other rcl _ _ _ (by omega),Row.setCells_other rh _ _ _ (by omega),Row.setCells_other rg _ _ _ (by omega),Row.setCells_other r4 _ _ _ (by omega),(fun _=>⟨e1,m1,by rw[if_pos (zbC (by rw[hl];decide))];exact fin⟩),(fun _=>by rw[zaA _ _ _ (by decide)];exact hal),(fun _ h2=>absurd (by rw[zaA _ _ _ (by decide)];exact zaI hk 3 (by kernel_rfl)) h2),(fun _ h2=>absurd (by rw[zaA _ _ _ (by decide)];exact zaI hk 7 (by kernel_rfl)) h2)⟩)
  ·have hk3:=hk
   exact zaE rfl rfl (zeT (ac.eval (.tmp 36)) rfl rfl ⟨b,hl2 13,(hF.put 13 10 (SP.is (.int .i64 0)) (ac.eval (.tmp 36)) (by rw[hD];rfl) ((hF.done 10 (36,SP.is (.int .i64 0)) (by rw[hD];rfl) (zaI hk 10 (by kernel_rfl)))) (by rw[hD];rfl) (by rw[hsz];decide) (by rw[hl];decide)),hb1,rp,rcl,rh,rg,r4,(fun h=>⟨(zaB ac _ (by decide)).trans ((al11 (by rwa [zaA _ _ _ (by decide)] at h)).1),(al11 (by rwa [zaA _ _ _ (by decide)] at h)).2.1,by rw[zaA _ _ _ (by decide)];exact (al11 (by rwa [zaA _ _ _ (by decide)] at h)).2.2⟩),(fun h=>by rw[zaA _ _ _ (by decide)];exact as11 (by rwa [zaA _ _ _ (by decide)] at h)),(fun h1 h2=>by change (SP.new 0 0 [] 5).P _ ((ac.put (some 10) _).eval (.tmp 27));rw[zaB ac _ (by decide)];exact ti0 (by rwa [zaA _ _ _ (by decide)] at h1) (by rwa [zaA _ _ _ (by decide)] at h2)),(fun h1 h2=>by change (SP.byd 6 dA).P _ ((ac.put (some 10) _).eval (.tmp 30));rw[zaB ac _ (by decide)];exact ti3 (by rwa [zaA _ _ _ (by decide)] at h1) (by rwa [zaA _ _ _ (by decide)] at h2))⟩)
 ·clear hb1 rp rcl rh rg r4
  intro listed ac W hI hr
  obtain⟨b,hl,hF,hb1,rp,rcl,rh,rg,r4,al11,as11,ti0,ti3⟩:=hI
  have hall:=zcL (by kernel_rfl) hl hr
  obtain⟨ea9,m9,p9⟩:=al11 (hall 11 (by decide))
  rw[if_pos (hall 12 (by decide))] at p9
  obtain⟨x27,h27⟩:∃ x,ac.eval (.tmp 27)=x:=⟨_,rfl⟩
  have h28:ac.eval (.tmp 28)=.pointer (some ⟨b2,0,none⟩):=hF.done 1 (28,SP.is (.pointer (some ⟨b2,0,none⟩))) (by rw[hD];rfl) (hall 1 (by decide))
  have h29:ac.eval (.tmp 29)=.slice (some ⟨gc,0,none⟩) 6 6:=hF.done 2 (29,SP.is (.slice (some ⟨gc,0,none⟩) 6 6)) (by rw[hD];rfl) (hall 2 (by decide))
  obtain⟨x30,h30⟩:∃ x,ac.eval (.tmp 30)=x:=⟨_,rfl⟩
  have h31:ac.eval (.tmp 31)=.agg M.toArray:=hF.done 4 (31,SP.is (.agg M.toArray)) (by rw[hD];rfl) (hall 4 (by decide))
  have h32:ac.eval (.tmp 32)=.pointer (some ⟨hb,0,none⟩):=hF.done 5 (32,SP.is (.pointer (some ⟨hb,0,none⟩))) (by rw[hD];rfl) (hall 5 (by decide))
  have h33:ac.eval (.tmp 33)=.iface 46 (.pointer (some ⟨hb,0,none⟩)):=hF.done 6 (33,SP.is (.iface 46 (.pointer (some ⟨hb,0,none⟩)))) (by rw[hD];rfl) (hall 6 (by decide))
  have h34:ac.eval (.tmp 34)=.tuple #[.agg R12.toArray,.int .i64 0]:=hF.done 7 (34,SP.is (.tuple #[.agg R12.toArray,.int .i64 0])) (by rw[hD];rfl) (hall 7 (by decide))
  have h26:ac.eval (.tmp 26)=.tuple #[.agg R12.toArray,.int .i64 0]:=hF.done 8 (26,SP.is (.tuple #[.agg R12.toArray,.int .i64 0])) (by rw[hD];rfl) (hall 8 (by decide))
  have h35:ac.eval (.tmp 35)=.agg R12.toArray:=hF.done 9 (35,SP.is (.agg R12.toArray)) (by rw[hD];rfl) (hall 9 (by decide))
  have h36:ac.eval (.tmp 36)=.int .i64 0:=hF.done 10 (36,SP.is (.int .i64 0)) (by rw[hD];rfl) (hall 10 (by decide))
  have h10:ac.eval (.tmp 10)=.int .i64 0:=hF.done 13 (10,SP.is (.int .i64 0)) (by rw[hD];rfl) (hall 13 (by decide))
  have ea:=hF.lay [(27,x27),(28,.pointer (some ⟨b2,0,none⟩)),(29,.slice (some ⟨gc,0,none⟩) 6 6),(30,x30),(31,.agg M.toArray),(32,.pointer (some ⟨hb,0,none⟩)),(33,.iface 46 (.pointer (some ⟨hb,0,none⟩))),(34,.tuple #[.agg R12.toArray,.int .i64 0]),(26,.tuple #[.agg R12.toArray,.int .i64 0]),(35,.agg R12.toArray),(36,.int .i64 0),(9,.pointer (some ⟨b,0,none⟩)),(10,.int .i64 0)] (by rw[hD,hsz];rfl) (by simp only[List.forall_mem_cons,List.not_mem_nil,false_implies,implies_true,and_true];exact⟨h27,h28,h29,h30,h31,h32,h33,h34,h26,h35,h36,ea9,h10⟩)
  rw[ha0] at ea
  simp only[List.foldl_cons,List.foldl_nil,jA,jB,jC] at ea
  clear hF hall hr hl hD al11 as11 ti0 ti3 zs2 zs7 zs8 ha0 hsz h27 h28 h29 h30 h31 h32 h33 h34 h26 h35 h36 ea9 h10
  subst ea
  have RB:Hid (Row W b R12 35):=p9
  have R4:Hid (Row W b4 zR 35):=r4
  have BW:Hid (Below w.heap.size w W):=BX.out.trans (hb1.mono BX.out.size)
  have hc:=rh.cell 1 _ rfl
  have u0:=p9.cell 0 _ rfl
  have v0:=r4.cell 0 _ rfl
  have vf0:=r4.thaw 0
  have u1:=p9.cell 1 _ rfl
  have v1:=r4.cell 1 _ rfl
  have vf1:=r4.thaw 1
  have u2:=p9.cell 2 _ rfl
  have v2:=r4.cell 2 _ rfl
  have vf2:=r4.thaw 2
  have u3:=p9.cell 3 _ rfl
  have v3:=r4.cell 3 _ rfl
  have vf3:=r4.thaw 3
  have u4:=p9.cell 4 _ rfl
  have v4:=r4.cell 4 _ rfl
  have vf4:=r4.thaw 4
  have nb:b4≠b:=by omega
  have nb':b≠b4:=by omega
  have nh:hb≠b4:=by have h2:=N3.out;have h3:=N4.out;omega
  have nh':b4≠hb:=fun e=>nh e.symm
  have HW4:Hid (w.heap.size<=b4):=by show _<=_;have h1:=N24.out;have h2:=HB2.out;omega
  clear p9 r4 hb1 rp rcl rh rg m9 m2 m4 mh hgc hT0 l2 l4 lh l8 lg
  go_wp2_with fail
  go_region
  all_goals
   have RF:=((((R4.out.set 0 (.int .u64 12)).set 1 (.int .u64 0)).set 2 (.int .u64 0)).set 3 (.int .u64 0)).set 4 (.int .i64 7)
   have GF:Gro (·=b4) W _:=(((((Gro.refl (·=b4) W).set b4 0 (.int .u64 12) rfl).set b4 1 (.int .u64 0) rfl).set b4 2 (.int .u64 0) rfl).set b4 3 (.int .u64 0) rfl).set b4 4 (.int .i64 7) rfl
   have BF:=(BW.out.trans (GF.to_below BW.out.size (fun k e=>by rw[e];exact HW4.out))).drew
   have RFD:=RF.drew
   go_wp2_with fail
   exact bodyPost_ret (zcE Tryz.results6 _ _ b4 35 R12 (.int .i64 0) (.slice none 0 0) rfl rfl rfl RFD Tryz.underlying35 zaP) rfl ⟨rfl,BF⟩
end Go.Proofs.YtedeobikfddmgaaGreat
