import Derived.Test.YtedeobikfddmgaaGreatMkAA
import Derived.Test.YtedeobikfddmgaaGreatMkGq
import Derived.Test.YtedeobikfddmgaaGreatMkGtB
set_option maxRecDepth 100000
set_option maxHeartbeats 16000000
namespace Go.Proofs.YtedeobikfddmgaaGreat
open Go Go.RowKit
open Sha
open Wd
noncomputable def rpre (c:Code):Code:=match zhF with
 |.block i (.seq a1 (.seq a2 (.seq a3 (.seq a4 (.seq a5 (.seq a6 (.seq a7 (.seq a8 (.seq a9 (.seq a10 (.seq a11 (.seq a12 (.seq a13 (.seq a14 _))))))))))))))=>.block i (.seq a1 (.seq a2 (.seq a3 (.seq a4 (.seq a5 (.seq a6 (.seq a7 (.seq a8 (.seq a9 (.seq a10 (.seq a11 (.seq a12 (.seq a13 (.seq a14 c))))))))))))))
 |x=>x
noncomputable def rsq (c:Code):Code:=match zhF with
 |.block _ (.seq _ (.seq _ (.seq _ (.seq _ (.seq _ (.seq _ (.seq _ (.seq _ (.seq _ (.seq _ (.seq _ (.seq _ (.seq _ (.seq _ (.seq b (.seq d _))))))))))))))))=>.seq b (.seq d c)
 |x=>x
noncomputable def rbt:Code:=match zhF with
 |.block _ (.seq _ (.seq _ (.seq _ (.seq _ (.seq _ (.seq _ (.seq _ (.seq _ (.seq _ (.seq _ (.seq _ (.seq _ (.seq _ (.seq _ (.seq _ (.seq _ e))))))))))))))))=>e
 |x=>x
theorem rpre_eq:rpre (rsq rbt)=zhF:=by kernel_rfl
def frh (kv rv:Value) (b4 b6:Nat) (sv qv:Value) (l p:Nat) (f:Nat->Value):Array Value:=#[kv,f 1,rv,f 3,.pointer (some ⟨b4,0,none⟩),f 5,.pointer (some ⟨b6,0,none⟩),f 7,f 8,sv,qv,.int .i64 (l:Int),.int .i64 (p:Int),f 13,f 14,f 15,f 16,f 17,f 18,f 19,f 20,f 21,f 22,f 23,f 24,f 25,f 26,f 27,f 28,f 29,f 30,f 31,f 32,f 33,f 34,f 35,f 36,f 37,f 38,f 39,f 40,f 41,f 42,f 43,f 44,f 45,f 46,f 47,f 48,f 49,f 50,f 51,f 52,f 53,f 54,f 55,f 56,f 57,f 58,f 59,f 60,f 61,f 62,f 63,f 64,f 65,f 66,f 67,f 68,f 69,f 70,f 71,f 72,f 73,f 74,f 75,f 76,f 77,f 78,f 79,f 80,f 81,f 82,f 83,f 84,f 85,f 86,f 87,f 88,f 89,f 90,f 91,f 92,f 93,f 94,f 95,f 96,f 97,f 98,f 99,f 100,f 101,f 102,f 103,f 104,f 105,f 106,f 107,f 108,f 109,f 110,f 111,f 112,f 113,f 114,f 115,f 116,f 117,f 118,f 119,f 120,f 121,f 122,f 123,f 124,f 125,f 126,f 127,f 128,f 129,f 130,f 131,f 132,f 133,f 134,f 135,f 136,f 137,f 138,f 139,f 140,f 141,f 142,f 143,f 144,f 145,f 146,f 147,f 148,f 149,f 150,f 151,f 152,f 153,f 154,f 155,f 156,f 157,f 158,f 159,f 160,f 161,f 162,f 163,f 164,f 165,f 166,f 167,f 168,f 169,f 170,f 171,f 172,f 173,f 174,f 175,f 176,f 177,f 178,f 179,f 180,f 181,f 182,f 183,f 184,f 185,f 186,f 187,f 188,f 189,f 190,f 191,f 192,f 193,f 194,f 195,f 196,f 197,f 198,f 199,f 200,f 201,f 202,f 203,f 204,f 205,f 206,f 207,f 208,f 209,f 210,f 211,f 212,f 213,f 214,f 215,f 216,f 217,f 218,f 219,f 220,f 221,f 222,f 223,f 224,f 225,f 226,f 227,f 228,f 229,f 230,f 231,f 232,f 233,f 234,f 235,f 236,f 237,f 238,f 239,f 240,f 241,f 242,f 243,f 244,f 245,f 246,f 247,f 248,f 249,f 250,f 251,f 252,f 253,f 254,f 255,f 256,f 257,f 258,f 259,f 260,f 261,f 262,f 263,f 264,f 265,f 266,f 267,f 268,f 269,f 270,f 271,f 272,f 273,f 274,f 275,f 276,f 277,f 278,f 279,f 280,f 281,f 282,f 283,f 284,f 285,f 286,f 287,f 288,f 289,f 290,f 291,f 292,f 293,f 294,f 295,f 296,f 297,f 298,f 299,f 300,f 301,f 302,f 303,f 304,f 305,f 306,f 307,f 308,f 309,f 310,f 311,f 312,f 313,f 314,f 315,f 316,f 317,f 318,f 319,f 320,f 321,f 322,f 323,f 324,f 325,f 326,f 327,f 328,f 329,f 330,f 331,f 332,f 333,f 334,f 335,f 336,f 337,f 338,f 339,f 340,f 341,f 342,f 343,f 344,f 345,f 346,f 347,f 348,f 349,f 350,f 351,f 352,f 353,f 354,f 355,f 356,f 357,f 358,f 359,f 360,f 361]
theorem zyV (n:Nat):∀ c,c<28->c≠4->c≠5->tT c n=wn c/\lT c n=lv c/\wn c<=3/\lv c<=1:=by
 intro c hc
 match c,hc with
 |0,_=>exact fun _ _=>⟨rfl,rfl,by decide,by decide⟩
 |1,_=>exact fun _ _=>⟨rfl,rfl,by decide,by decide⟩
 |2,_=>exact fun _ _=>⟨rfl,rfl,by decide,by decide⟩
 |3,_=>exact fun _ _=>⟨rfl,rfl,by decide,by decide⟩
 |4,_=>exact fun h _=>absurd rfl h
 |5,_=>exact fun _ h=>absurd rfl h
 |6,_=>exact fun _ _=>⟨rfl,rfl,by decide,by decide⟩
 |7,_=>exact fun _ _=>⟨rfl,rfl,by decide,by decide⟩
 |8,_=>exact fun _ _=>⟨rfl,rfl,by decide,by decide⟩
 |9,_=>exact fun _ _=>⟨rfl,rfl,by decide,by decide⟩
 |10,_=>exact fun _ _=>⟨rfl,rfl,by decide,by decide⟩
 |11,_=>exact fun _ _=>⟨rfl,rfl,by decide,by decide⟩
 |12,_=>exact fun _ _=>⟨rfl,rfl,by decide,by decide⟩
 |13,_=>exact fun _ _=>⟨rfl,rfl,by decide,by decide⟩
 |14,_=>exact fun _ _=>⟨rfl,rfl,by decide,by decide⟩
 |15,_=>exact fun _ _=>⟨rfl,rfl,by decide,by decide⟩
 |16,_=>exact fun _ _=>⟨rfl,rfl,by decide,by decide⟩
 |17,_=>exact fun _ _=>⟨rfl,rfl,by decide,by decide⟩
 |18,_=>exact fun _ _=>⟨rfl,rfl,by decide,by decide⟩
 |19,_=>exact fun _ _=>⟨rfl,rfl,by decide,by decide⟩
 |20,_=>exact fun _ _=>⟨rfl,rfl,by decide,by decide⟩
 |21,_=>exact fun _ _=>⟨rfl,rfl,by decide,by decide⟩
 |22,_=>exact fun _ _=>⟨rfl,rfl,by decide,by decide⟩
 |23,_=>exact fun _ _=>⟨rfl,rfl,by decide,by decide⟩
 |24,_=>exact fun _ _=>⟨rfl,rfl,by decide,by decide⟩
 |25,_=>exact fun _ _=>⟨rfl,rfl,by decide,by decide⟩
 |26,_=>exact fun _ _=>⟨rfl,rfl,by decide,by decide⟩
 |27,_=>exact fun _ _=>⟨rfl,rfl,by decide,by decide⟩
 |k+28,hc=>exact absurd hc (by omega)
theorem znA:∀ (c n k:Nat),c<28->tT c n<=k->wn c<=tT c n/\k-tT c n+lT c n=k-wn c+lv c/\(c≠4->c≠5->tT c n=wn c)/\(c=4\/c=5->tT c n=n+1)/\wn c<=3/\lv c<=1:=by
 intro c n k hc h
 have hl:=zyV n
 by_cases h4:c=4
 ·subst h4
  have h1:tT 4 n=1+n:=rfl
  have h2:lT 4 n=2+n:=rfl
  have h3:wn 4=0:=rfl
  have h5:lv 4=1:=rfl
  omega
 by_cases h5:c=5
 ·subst h5
  have h1:tT 5 n=1+n:=rfl
  have h2:lT 5 n=1+n:=rfl
  have h3:wn 5=0:=rfl
  have h5:lv 5=0:=rfl
  omega
 obtain⟨e1,e2,e3,e4⟩:=hl c hc h4 h5
 rw[e1] at h
 rw[e1,e2]
 omega
theorem tT_few:∀ (c n:Nat),c<28->(c≠4->c≠5->tT c n=wn c)/\(c=4\/c=5->tT c n=n+1)/\wn c<=3/\lv c<=1:=fun c n hc=>by
 obtain⟨_,_,h⟩:=znA c n (tT c n) hc (Nat.le_refl _)
 exact h
structure Sw (w0:World) (b4 b6:Nat) (L:List Value) (kv rv:Value) (qv:Value) (qs:List (List Value)) (bs tops:List Nat) (c p l2 p2 s:Nat) (op:Int) (gv cv:Nat) (sv:Value) (lst:List Value) (X:World):Prop where
 len:lst.length=362
 f0:lst.getD 0 undef=kv
 f2:lst.getD 2 undef=rv
 f4:lst.getD 4 undef=.pointer (some ⟨b4,0,none⟩)
 f6:lst.getD 6 undef=.pointer (some ⟨b6,0,none⟩)
 f9:lst.getD 9 undef=sv
 f10:lst.getD 10 undef=qv
 f11:lst.getD 11 undef=.int .i64 (l2:Int)
 f12:lst.getD 12 undef=.int .i64 (p:Int)
 f13:lst.getD 13 undef=.int .i64 (c:Int)
 f14:lst.getD 14 undef=.int .i64 (s:Int)
 f15:lst.getD 15 undef=.int .i64 op
 f17:lst.getD 17 undef=.int .i64 (bs.length:Int)
 f18:lst.getD 18 undef=.slice (some ⟨gv,0,none⟩) tops.length cv
 f19:lst.getD 19 undef=.int .i64 (p2:Int)
 f20:lst.getD 20 undef=.slice none 0 0
 dr:Dr w0 b4 b6 L X sv (bs++tops) qv qs
 v:Lw X 27 4 (.slice (some ⟨gv,0,none⟩) tops.length cv) tops.length (fw tops)
theorem yaE {w0:World} {L:List Value} {gk ok m ck b4 b6:Nat} {Q0:Exit->Act->World->Prop} {I:Act->World->Prop} (rv:Value) (c s g tt vv o1 n l l2 p:Nat) (f:Nat->Value) (A0:Option Addr) (cap0:Nat) (qv:Value) (qs:List (List Value)) (ssr:List Nat) (w:World)
 (HD:Hid (Dr w0 b4 b6 L w (.slice A0 n cap0) ssr qv qs))
 (HK0:Hid (∀ X,Below w0.heap.size w0 X->X.cell? ⟨gk,ok+p,none⟩=some (.int .u8 (c:Int))))
 (HK1:Hid (((s:Int)==2)=true->∀ X,Below w0.heap.size w0 X->X.cell? ⟨gk,ok+(p+1),none⟩=some (.int .u8 (o1:Int))))
 (HSZ:Hid (∀ X,Below w0.heap.size w0 X->Calls Tryz.prog 11 #[.slice (some ⟨gk,ok,none⟩) m ck,.int .i64 (p:Int)] X fun e w'=>e=.returned (.int .i64 (s:Int))/\w'=X))
 (HPR:Hid (∀ X,Calls Tryz.prog 12 #[.int .i64 (c:Int)] X fun e w'=>e=.returned (.int .i64 (g:Int))/\Below X.heap.size X w'))
 (HWA:Hid (∀ X,Calls Tryz.prog 13 #[.int .i64 (c:Int)] X fun e w'=>e=.returned (.int .i64 (tt:Int))/\Below X.heap.size X w'))
 (HLV:Hid (∀ X,Calls Tryz.prog 14 #[.int .i64 (c:Int)] X fun e w'=>e=.returned (.int .i64 (vv:Int))/\Below X.heap.size X w'))
 (hml:(m:Int)<=1024) (hpm:(p:Int)<(m:Int)) (hs:(p:Int)+(s:Int)<=(m:Int)) (h1s:1<=(s:Int)) (hci:(c:Int)<28) (hl:(l:Int)<=10000) (hgl:(g:Int)<=(l:Int)) (el2:(l:Int)-(g:Int)=(l2:Int)) (htt:(tt:Int)<=3) (hvv:(vv:Int)<=1) (ho:(o1:Int)<256) (_hnb:(n:Int)<=64) (code:Code)
 (bs tops:List Nat) (hcs:((((s:Int)==2)=false/\((c:Int)==4)=false/\((c:Int)==5)=false/\¬ (n:Int)<(tt:Int))\/(((s:Int)==2)=true/\((c:Int)==4)=false/\((c:Int)==5)=false/\¬ (n:Int)<(tt:Int))\/(((s:Int)==2)=true/\((c:Int)==4)=true/\((c:Int)==5)=false/\¬ (n:Int)<(o1:Int)+1)\/(((s:Int)==2)=true/\((c:Int)==4)=false/\((c:Int)==5)=true/\¬ (n:Int)<(o1:Int)+1))) (hkn:(n:Int)-(tt:Int)=(bs.length:Int)) (hmu:¬ (64:Int)<(bs.length:Int)+(vv:Int)) (hss:ssr=bs++tops) (htl:tops.length=tt) (p2:Nat) (ep2:(p:Int)+(s:Int)=(p2:Int))
 (hK:∀ (lst:List Value) (X:World) (op:Int) (gv cv:Nat),op=0\/op=(o1:Int)->(((s:Int)==2)=true->op=(o1:Int))->Sw w0 b4 b6 L (.slice (some ⟨gk,ok,none⟩) m ck) rv qv qs bs tops c p l2 p2 s op gv cv (.slice A0 n cap0) lst X->Code.wp Tryz.prog code (Exit.inBlock 1 (Exit.then I Q0)) ⟨lst.toArray,[]⟩ X) :
 Code.wp Tryz.prog (rpre code) (Exit.then I Q0) ⟨frh (.slice (some ⟨gk,ok,none⟩) m ck) rv b4 b6 (.slice A0 n cap0) qv l p f,[]⟩ w:=by
 unfold frh
 have k0:=HK0.out w HD.out.be
 have hpm2:¬ (m:Int)<=(p:Int):=by omega
 have hgi:¬ (l:Int)<(g:Int):=by omega
 have eC:IntKind.i64.wrap (c:Int)=(c:Int):=by rw[IntKind.wrap_i64];omega
 have eO:IntKind.i64.wrap (o1:Int)=(o1:Int):=by rw[IntKind.wrap_i64];omega
 have hl2b:(l2:Int)<=10000:=by omega
 have HSS:Hid (ssr=bs++tops):=hss
 have HTL:Hid (tops.length<=3):=by show _<=_;omega
 have HNB:Hid (n=bs.length+tops.length):=by show _=_;omega
 have HK:Hid _:=hK
 have HS2:Hid (((s:Int)==2)=true->(s:Int)=2):=fun h=>by simpa using h
 have hkb:(bs.length:Int)<=64:=by omega
 have hp2b:(p2:Int)<=2000:=by omega
 clear hss htl hK
 rcases hcs with ⟨e2,e4,e5,hdp⟩|⟨e2,e4,e5,hdp⟩|⟨e2,e4,e5,hdp⟩|⟨e2,e4,e5,hdp⟩
 all_goals
  conv=>arg 2;whnf
  go_upto_region 12 with fail
  go_upto_region 13 with (go_at_call 11;refine (HSZ.out w HD.out.be).mono ?_;rintro e X0 ⟨rfl,hq⟩;obtain rfl:=hq.symm)
  go_upto_region 15 with (go_at_call 12;refine (HPR.out w).mono ?_;rintro e X1 ⟨rfl,q⟩;have D1:Hid (Dr w0 b4 b6 L X1 _ ssr qv qs):=HD.out.keep q;clear q)
  go_upto_region 16 with (go_at_call 12;refine (HPR.out X1).mono ?_;rintro e X2 ⟨rfl,q⟩;have D2:Hid (Dr w0 b4 b6 L X2 _ ssr qv qs):=D1.out.keep q;clear q)
  try have hpi1:(p:Int)+1<(m:Int):=by (have:=HS2.out e2;omega)
  try have k1:=HK1.out e2 X2 D2.out.be
  go_upto_region 20 with (go_at_call 13;refine (HWA.out X2).mono ?_;rintro e X3 ⟨rfl,q⟩;have D3:Hid (Dr w0 b4 b6 L X3 _ ssr qv qs):=D2.out.keep q;clear q)
  go_upto_region 24 with (first
   |(go_at_call 13;refine (HWA.out X3).mono ?_;rintro e X4 ⟨rfl,q⟩;have D4:Hid (Dr w0 b4 b6 L X4 _ ssr qv qs):=D3.out.keep q;clear q)
   |(go_at_call 14;refine (HLV.out X4).mono ?_;rintro e X5 ⟨rfl,q⟩;have D5:Hid (Dr w0 b4 b6 L X5 _ ssr qv qs):=D4.out.keep q;clear q))
  go_upto_region 25 with (go_at_call 13;refine (HWA.out X5).mono ?_;rintro e X6 ⟨rfl,q⟩;have D6:Hid (Dr w0 b4 b6 L X6 _ ssr qv qs):=D5.out.keep q;clear q)
  have HSTK:Hid (∀ X,Below X6.heap.size X6 X->Lw X 27 4 (.slice A0 n cap0) n (fw (bs++tops))):=fun X hX=>by
   have h:=Lw.be D6.out.st hX
   rw[HSS.out,List.length_append,<-HNB.out] at h
   exact h
  go_wp2_with (first
   |(refine znU rfl (.tmp 133) (.tmp 134) rfl _ n bs.length bs tops rfl HNB.out (HSTK.out _ ((Below.refl _ _).alloc (Nat.le_refl _) _)) rfl rfl ?_;intro At ct hSin;have HSIN:Hid (Sin _ 4 At tops.length ct (fw tops)):=hSin;clear hSin;simp only[Act.put,jA,jB,jC])
   |(refine zcY 28 27 4 32 Tryz.underlying28 zbO (by decide) rfl (.tmp 132) (.tmp 135) rfl X6.heap.size rfl (Row.new' rfl rfl:Row _ _ [] _) At tops.length ct (fw tops) rfl HSIN.out (by have:=HTL.out;unfold maxLen;omega) (by have:=HTL.out;omega) ?_;intro gv cv X8 q1 q2 q3 q4;have HV:Hid (Lw X8 27 4 (.slice (some ⟨gv,0,none⟩) tops.length cv) tops.length (fw tops)):=q1;have hk8:Below X6.heap.size X6 X8:=((Below.refl _ _).alloc (Nat.le_refl _) _).trans (q3.mono (by simp));have D8:Hid (Dr w0 b4 b6 L X8 _ ssr qv qs):=D6.out.keep hk8;clear q1 q2 q3 q4 hk8;simp only[Act.put,jA,jB,jC]))
  have d8:=D8.out
  rw[HSS.out] at d8
  refine HK.out _ X8 _ gv cv (by first|exact .inl rfl|exact .inr rfl) ?_ ⟨rfl,rfl,rfl,rfl,rfl,rfl,rfl,rfl,rfl,rfl,rfl,rfl,rfl,rfl,rfl,rfl,d8,HV.out⟩
  intro e
  first|rfl|(rw[e2] at e;cases e)
theorem zzC {w0:World} {L:List Value} {gk ok m ck b4 b6:Nat} {Q0:Exit->Act->World->Prop} {I:Act->World->Prop} (rv:Value) (c s g tt vv o1 n l l2 p:Nat) (f:Nat->Value) (A0:Option Addr) (cap0:Nat) (qv:Value) (qs:List (List Value)) (ssr:List Nat) (w:World)
 (HD:Hid (Dr w0 b4 b6 L w (.slice A0 n cap0) ssr qv qs))
 (HK0:Hid (∀ X,Below w0.heap.size w0 X->X.cell? ⟨gk,ok+p,none⟩=some (.int .u8 (c:Int))))
 (HK1:Hid (((s:Int)==2)=true->∀ X,Below w0.heap.size w0 X->X.cell? ⟨gk,ok+(p+1),none⟩=some (.int .u8 (o1:Int))))
 (HSZ:Hid (∀ X,Below w0.heap.size w0 X->Calls Tryz.prog 11 #[.slice (some ⟨gk,ok,none⟩) m ck,.int .i64 (p:Int)] X fun e w'=>e=.returned (.int .i64 (s:Int))/\w'=X))
 (HPR:Hid (∀ X,Calls Tryz.prog 12 #[.int .i64 (c:Int)] X fun e w'=>e=.returned (.int .i64 (g:Int))/\Below X.heap.size X w'))
 (HWA:Hid (∀ X,Calls Tryz.prog 13 #[.int .i64 (c:Int)] X fun e w'=>e=.returned (.int .i64 (tt:Int))/\Below X.heap.size X w'))
 (HLV:Hid (∀ X,Calls Tryz.prog 14 #[.int .i64 (c:Int)] X fun e w'=>e=.returned (.int .i64 (vv:Int))/\Below X.heap.size X w'))
 (hml:(m:Int)<=1024) (hpm:(p:Int)<(m:Int)) (hs:(p:Int)+(s:Int)<=(m:Int)) (h1s:1<=(s:Int)) (hci:(c:Int)<28) (hl:(l:Int)<=10000) (hgl:(g:Int)<=(l:Int)) (el2:(l:Int)-(g:Int)=(l2:Int)) (htt:(tt:Int)<=3) (hvv:(vv:Int)<=1) (ho:(o1:Int)<256) (hnb:(n:Int)<=64) (code:Code)
 (hcs:(((((s:Int)==2)=false/\((c:Int)==4)=false/\((c:Int)==5)=false/\ (n:Int)<(tt:Int))\/(((s:Int)==2)=true/\((c:Int)==4)=false/\((c:Int)==5)=false/\ (n:Int)<(tt:Int))\/(((s:Int)==2)=true/\((c:Int)==4)=true/\((c:Int)==5)=false/\ (n:Int)<(o1:Int)+1)\/(((s:Int)==2)=true/\((c:Int)==4)=false/\((c:Int)==5)=true/\ (n:Int)<(o1:Int)+1))\/(((((s:Int)==2)=false/\((c:Int)==4)=false/\((c:Int)==5)=false/\¬ (n:Int)<(tt:Int))\/(((s:Int)==2)=true/\((c:Int)==4)=false/\((c:Int)==5)=false/\¬ (n:Int)<(tt:Int))\/(((s:Int)==2)=true/\((c:Int)==4)=true/\((c:Int)==5)=false/\¬ (n:Int)<(o1:Int)+1)\/(((s:Int)==2)=true/\((c:Int)==4)=false/\((c:Int)==5)=true/\¬ (n:Int)<(o1:Int)+1))/\∃ kk:Nat,(n:Int)-(tt:Int)=(kk:Int)/\(64:Int)<(kk:Int)+(vv:Int)))) (RV:List Value) (RE:Int) (Q:List (List Value)) (hRV:RV=zR) (hRE:RE=103) (hQ:Q=qs) (hB6:w0.heap.size<=b6) (hret:∀ a w,RP w0 b6 RV RE Q a w->Q0 .ret a w) :
 Code.wp Tryz.prog (rpre code) (Exit.then I Q0) ⟨frh (.slice (some ⟨gk,ok,none⟩) m ck) rv b4 b6 (.slice A0 n cap0) qv l p f,[]⟩ w:=by
 unfold frh
 have k0:=HK0.out w HD.out.be
 have hpm2:¬ (m:Int)<=(p:Int):=by omega
 have hgi:¬ (l:Int)<(g:Int):=by omega
 have eC:IntKind.i64.wrap (c:Int)=(c:Int):=by rw[IntKind.wrap_i64];omega
 have eO:IntKind.i64.wrap (o1:Int)=(o1:Int):=by rw[IntKind.wrap_i64];omega
 have hl2b:(l2:Int)<=10000:=by omega
 have HRV:Hid (RV=zR):=hRV
 have HRE:Hid (RE=103):=hRE
 have HQQ:Hid (Q=qs):=hQ
 have HB6:Hid (w0.heap.size<=b6):=hB6
 have HRET:Hid _:=hret
 have HS2:Hid (((s:Int)==2)=true->(s:Int)=2):=fun h=>by simpa using h
 clear hRV hRE hQ hB6 hret
 rcases hcs with hcs|⟨hcs,kk,hkn,hmu⟩
 ·rcases hcs with ⟨e2,e4,e5,hdp⟩|⟨e2,e4,e5,hdp⟩|⟨e2,e4,e5,hdp⟩|⟨e2,e4,e5,hdp⟩
  all_goals
   conv=>arg 2;whnf
   go_upto_region 12 with fail
   go_upto_region 13 with (go_at_call 11;refine (HSZ.out w HD.out.be).mono ?_;rintro e X0 ⟨rfl,hq⟩;obtain rfl:=hq.symm)
   go_upto_region 15 with (go_at_call 12;refine (HPR.out w).mono ?_;rintro e X1 ⟨rfl,q⟩;have D1:Hid (Dr w0 b4 b6 L X1 _ ssr qv qs):=HD.out.keep q;clear q)
   go_upto_region 16 with (go_at_call 12;refine (HPR.out X1).mono ?_;rintro e X2 ⟨rfl,q⟩;have D2:Hid (Dr w0 b4 b6 L X2 _ ssr qv qs):=D1.out.keep q;clear q)
   try have hpi1:(p:Int)+1<(m:Int):=by (have:=HS2.out e2;omega)
   try have k1:=HK1.out e2 X2 D2.out.be
   go_upto_region 20 with (go_at_call 13;refine (HWA.out X2).mono ?_;rintro e X3 ⟨rfl,q⟩;have D3:Hid (Dr w0 b4 b6 L X3 _ ssr qv qs):=D2.out.keep q;clear q)
   go_wp2_with (first
    |(go_at_call 13;refine (HWA.out X3).mono ?_;rintro e X4 ⟨rfl,q⟩;have D4:Hid (Dr w0 b4 b6 L X4 _ ssr qv qs):=D3.out.keep q;clear q)
    |(go_at_call 14;refine (HLV.out X4).mono ?_;rintro e X5 ⟨rfl,q⟩;have D5:Hid (Dr w0 b4 b6 L X5 _ ssr qv qs):=D4.out.keep q;clear q)
    |(refine zaD rfl 35 (.tmp 6) (.tmp 125) rfl b6 zR zR 35 rfl rfl D5.out.r6 rfl zaP zcW ?_;intro X9 q1 q2;have EX:Hid (∃ Y,Dr w0 b4 b6 L Y (.slice A0 n cap0) ssr qv qs/\X9=Y.setCells b6 0 zR):=⟨X5,D5.out,q1⟩;have R9:Hid (Row X9 b6 zR 35):=q2;clear q1 q2;simp only[Act.put])
    |(refine zaD rfl 35 (.tmp 6) (.tmp 125) rfl b6 zR zR 35 rfl rfl D3.out.r6 rfl zaP zcW ?_;intro X9 q1 q2;have EX:Hid (∃ Y,Dr w0 b4 b6 L Y (.slice A0 n cap0) ssr qv qs/\X9=Y.setCells b6 0 zR):=⟨X3,D3.out,q1⟩;have R9:Hid (Row X9 b6 zR 35):=q2;clear q1 q2;simp only[Act.put]))
   try refine HRET.out _ _ ?_
   obtain⟨Y,DY,EY⟩:=EX.out
   obtain⟨A7,c7,hv,_,_⟩:=Lw.form DY.aq
   refine⟨_,A7,c7,rfl,?_,?_,?_,?_,?_,?_⟩
   ·rfl
   ·rw[HRE.out];rfl
   ·rw[HQQ.out,<-hv];rfl
   ·rw[HRV.out];exact R9.out
   ·rw[HQQ.out,<-hv];exact zeQ DY EY
   ·rw[EY];exact zaC DY.be HB6.out zR
 ·have hkb:(kk:Int)<=64:=by omega
  rcases hcs with ⟨e2,e4,e5,hdp⟩|⟨e2,e4,e5,hdp⟩|⟨e2,e4,e5,hdp⟩|⟨e2,e4,e5,hdp⟩
  all_goals
   conv=>arg 2;whnf
   go_upto_region 12 with fail
   go_upto_region 13 with (go_at_call 11;refine (HSZ.out w HD.out.be).mono ?_;rintro e X0 ⟨rfl,hq⟩;obtain rfl:=hq.symm)
   go_upto_region 15 with (go_at_call 12;refine (HPR.out w).mono ?_;rintro e X1 ⟨rfl,q⟩;have D1:Hid (Dr w0 b4 b6 L X1 _ ssr qv qs):=HD.out.keep q;clear q)
   go_upto_region 16 with (go_at_call 12;refine (HPR.out X1).mono ?_;rintro e X2 ⟨rfl,q⟩;have D2:Hid (Dr w0 b4 b6 L X2 _ ssr qv qs):=D1.out.keep q;clear q)
   try have hpi1:(p:Int)+1<(m:Int):=by (have:=HS2.out e2;omega)
   try have k1:=HK1.out e2 X2 D2.out.be
   go_upto_region 20 with (go_at_call 13;refine (HWA.out X2).mono ?_;rintro e X3 ⟨rfl,q⟩;have D3:Hid (Dr w0 b4 b6 L X3 _ ssr qv qs):=D2.out.keep q;clear q)
   go_wp2_with (first
    |(go_at_call 13;refine (HWA.out X3).mono ?_;rintro e X4 ⟨rfl,q⟩;have D4:Hid (Dr w0 b4 b6 L X4 _ ssr qv qs):=D3.out.keep q;clear q)
    |(go_at_call 14;refine (HLV.out X4).mono ?_;rintro e X5 ⟨rfl,q⟩;have D5:Hid (Dr w0 b4 b6 L X5 _ ssr qv qs):=D4.out.keep q;clear q)
    |(refine zaD rfl 35 (.tmp 6) (.tmp 125) rfl b6 zR zR 35 rfl rfl D5.out.r6 rfl zaP zcW ?_;intro X9 q1 q2;have EX:Hid (∃ Y,Dr w0 b4 b6 L Y (.slice A0 n cap0) ssr qv qs/\X9=Y.setCells b6 0 zR):=⟨X5,D5.out,q1⟩;have R9:Hid (Row X9 b6 zR 35):=q2;clear q1 q2;simp only[Act.put])
    |(refine zaD rfl 35 (.tmp 6) (.tmp 125) rfl b6 zR zR 35 rfl rfl D3.out.r6 rfl zaP zcW ?_;intro X9 q1 q2;have EX:Hid (∃ Y,Dr w0 b4 b6 L Y (.slice A0 n cap0) ssr qv qs/\X9=Y.setCells b6 0 zR):=⟨X3,D3.out,q1⟩;have R9:Hid (Row X9 b6 zR 35):=q2;clear q1 q2;simp only[Act.put]))
   try refine HRET.out _ _ ?_
   obtain⟨Y,DY,EY⟩:=EX.out
   obtain⟨A7,c7,hv,_,_⟩:=Lw.form DY.aq
   refine⟨_,A7,c7,rfl,?_,?_,?_,?_,?_,?_⟩
   ·rfl
   ·rw[HRE.out];rfl
   ·rw[HQQ.out,<-hv];rfl
   ·rw[HRV.out];exact R9.out
   ·rw[HQQ.out,<-hv];exact zeQ DY EY
   ·rw[EY];exact zaC DY.be HB6.out zR
section
variable {w0:World} {pd:List (BitVec 8)} {ls:List Ins} {ags:List Nat} {rs:List (Nat × Int)} {cl:Cl} {G:Nat} {L:List Value} {Aa Ar:Option Addr} {na ca nr cr0 gk ok m ck b4 b6:Nat} {R:Except Int (Nat × Nat)} {Q:List (List Value)} {RV:List Value} {RE:Int} {Q0:Exit->Act->World->Prop} {I:Act->World->Prop}
structure Sx (ls:List Ins) (ags:List Nat) (rs:List (Nat × Int)) (cl:Cl) (G:Nat) (R:Except Int (Nat × Nat)) (Q:List (List Value)) (m:Nat) (x:Ins) (l nx:Nat) (st:List Nat) (qs:List (List Value)) (bs tops:List Nat) (l2 p2 s:Nat) (op:Int):Prop where
 rd:Rd cl ags ls rs R Q G st l nx qs
 hx:ls[nx]?=some x
 c28:x.c<28
 gas:gT x.c<=l
 few:tT x.c x.n<=st.length
 much:¬ 64<st.length-tT x.c x.n+lT x.c x.n
 rev:st.reverse=bs++tops
 tl:tops.length=wn x.c
 el:l2=l-gT x.c
 ep:p2=zgT ls m (nx+1)
 es:p2=x.p+s
 eo:x.c=4\/x.c=5\/x.c=16->op=(x.n:Int)
 eb:∃ k:Nat,op=(k:Int)/\k<256
def fra (f:Nat->Value):Array Value:=#[f 0,f 1,f 2,f 3,f 4,f 5,f 6,f 7,f 8,f 9,f 10,f 11,f 12,f 13,f 14,f 15,f 16,f 17,f 18,f 19,f 20,f 21,f 22,f 23,f 24,f 25,f 26,f 27,f 28,f 29,f 30,f 31,f 32,f 33,f 34,f 35,f 36,f 37,f 38,f 39,f 40,f 41,f 42,f 43,f 44,f 45,f 46,f 47,f 48,f 49,f 50,f 51,f 52,f 53,f 54,f 55,f 56,f 57,f 58,f 59,f 60,f 61,f 62,f 63,f 64,f 65,f 66,f 67,f 68,f 69,f 70,f 71,f 72,f 73,f 74,f 75,f 76,f 77,f 78,f 79,f 80,f 81,f 82,f 83,f 84,f 85,f 86,f 87,f 88,f 89,f 90,f 91,f 92,f 93,f 94,f 95,f 96,f 97,f 98,f 99,f 100,f 101,f 102,f 103,f 104,f 105,f 106,f 107,f 108,f 109,f 110,f 111,f 112,f 113,f 114,f 115,f 116,f 117,f 118,f 119,f 120,f 121,f 122,f 123,f 124,f 125,f 126,f 127,f 128,f 129,f 130,f 131,f 132,f 133,f 134,f 135,f 136,f 137,f 138,f 139,f 140,f 141,f 142,f 143,f 144,f 145,f 146,f 147,f 148,f 149,f 150,f 151,f 152,f 153,f 154,f 155,f 156,f 157,f 158,f 159,f 160,f 161,f 162,f 163,f 164,f 165,f 166,f 167,f 168,f 169,f 170,f 171,f 172,f 173,f 174,f 175,f 176,f 177,f 178,f 179,f 180,f 181,f 182,f 183,f 184,f 185,f 186,f 187,f 188,f 189,f 190,f 191,f 192,f 193,f 194,f 195,f 196,f 197,f 198,f 199,f 200,f 201,f 202,f 203,f 204,f 205,f 206,f 207,f 208,f 209,f 210,f 211,f 212,f 213,f 214,f 215,f 216,f 217,f 218,f 219,f 220,f 221,f 222,f 223,f 224,f 225,f 226,f 227,f 228,f 229,f 230,f 231,f 232,f 233,f 234,f 235,f 236,f 237,f 238,f 239,f 240,f 241,f 242,f 243,f 244,f 245,f 246,f 247,f 248,f 249,f 250,f 251,f 252,f 253,f 254,f 255,f 256,f 257,f 258,f 259,f 260,f 261,f 262,f 263,f 264,f 265,f 266,f 267,f 268,f 269,f 270,f 271,f 272,f 273,f 274,f 275,f 276,f 277,f 278,f 279,f 280,f 281,f 282,f 283,f 284,f 285,f 286,f 287,f 288,f 289,f 290,f 291,f 292,f 293,f 294,f 295,f 296,f 297,f 298,f 299,f 300,f 301,f 302,f 303,f 304,f 305,f 306,f 307,f 308,f 309,f 310,f 311,f 312,f 313,f 314,f 315,f 316,f 317,f 318,f 319,f 320,f 321,f 322,f 323,f 324,f 325,f 326,f 327,f 328,f 329,f 330,f 331,f 332,f 333,f 334,f 335,f 336,f 337,f 338,f 339,f 340,f 341,f 342,f 343,f 344,f 345,f 346,f 347,f 348,f 349,f 350,f 351,f 352,f 353,f 354,f 355,f 356,f 357,f 358,f 359,f 360,f 361]
theorem zoK (l:List Value) (h:l.length=362):∃ f:Nat->Value,(∀ k,f k=l.getD k undef)/\l.toArray=fra f:=by
 obtain⟨f,hf,e⟩:=zfS l h
 refine⟨f,fun k=>by rw[hf],?_⟩
 conv=>lhs;rw[e]
 rfl
structure Bt (w0:World) (b4 b6:Nat) (L:List Value) (kv rv:Value) (qv:Value) (qs:List (List Value)) (bs tops on:List Nat) (l2 p2 n:Nat) (sv:Value) (lst:List Value) (X:World):Prop where
 len:lst.length=362
 f0:lst.getD 0 undef=kv
 f2:lst.getD 2 undef=rv
 f4:lst.getD 4 undef=.pointer (some ⟨b4,0,none⟩)
 f6:lst.getD 6 undef=.pointer (some ⟨b6,0,none⟩)
 f9:lst.getD 9 undef=sv
 f10:lst.getD 10 undef=qv
 f11:lst.getD 11 undef=.int .i64 (l2:Int)
 f17:lst.getD 17 undef=.int .i64 (bs.length:Int)
 f19:lst.getD 19 undef=.int .i64 (p2:Int)
 on:(on=[]/\lst.getD 20 undef=.slice none 0 0)\/∃ r g,on=[r]/\lst.getD 20 undef=.slice (some ⟨g,0,none⟩) 1 1/\X.rangeAt g 0 (wq r)
 dr:Dr w0 b4 b6 L X sv (bs++tops) qv qs
 n64:bs.length+tops.length<=64
theorem r_top (E:Env w0 pd ls ags rs cl G L Aa Ar na ca nr cr0 gk ok m ck b4 b6) (f:Nat->Value) (sv qv:Value) (l nx p:Nat) (st:List Nat) (qs:List (List Value)) (x:Ins) (w:World) (D:Dr w0 b4 b6 L w sv st.reverse qv qs) (hRd:Rd cl ags ls rs R Q G st l nx qs) (hp:p=zgT ls m nx) (hx:ls[nx]?=some x) (hg:gT x.c<=l) (hf0:tT x.c x.n<=st.length) (hf1:¬ 64<st.length-tT x.c x.n+lT x.c x.n) (code:Code)
 (hK:∀ (lst:List Value) (X:World) (sv':Value) (bs tops:List Nat) (l2 p2 s:Nat) (op:Int) (gv cv:Nat),Sx ls ags rs cl G R Q m x l nx st qs bs tops l2 p2 s op->Sw w0 b4 b6 L (.slice (some ⟨gk,ok,none⟩) m ck) (.slice Ar nr cr0) qv qs bs tops x.c x.p l2 p2 s op gv cv sv' lst X->Code.wp Tryz.prog code (Exit.inBlock 1 (Exit.then I Q0)) ⟨lst.toArray,[]⟩ X) :
 Code.wp Tryz.prog (rpre code) (Exit.then I Q0) ⟨frh (.slice (some ⟨gk,ok,none⟩) m ck) (.slice Ar nr cr0) b4 b6 sv qv l p f,[]⟩ w:=by
 obtain⟨hm,hxp,hc28,hpl,bb,br,hd,hbb,how,hro,hsz,hpn⟩:=ziA E.pdl E.chk hx
 rw[hpl] at hp
 have hdl:=congrArg List.length hd
 rw[List.length_drop,List.length_cons,E.pdl] at hdl
 have hb0:=zdA hd 0
 rw[Nat.add_zero,List.getD_cons_zero] at hb0
 have hk0:=fun X hX=>E.at x.p hxp X hX
 rw[hb0,hbb] at hk0
 have HK0:Hid (∀ X,Below w0.heap.size w0 X->X.cell? ⟨gk,ok+x.p,none⟩=some (.int .u8 ((x.c:Nat):Int))):=hk0
 have HK1:Hid (1<=br.length->∀ X,Below w0.heap.size w0 X->X.cell? ⟨gk,ok+(x.p+1),none⟩=some (.int .u8 (((br.getD 0 0#8).toNat:Nat):Int))):=fun hh X hX=>by
  have:=E.at (x.p+1) (by omega) X hX
  rwa [zdA hd 1,List.getD_cons_succ] at this
 have h45:x.c=4\/x.c=5->1+ow (zaZ x.c) br=2/\(br.getD 0 0#8).toNat=x.n:=fun hc=>by
  obtain⟨q1,q2⟩:=zmZ (by omega) how hro
  exact⟨by omega,q2⟩
 have HSZ:Hid (∀ X,Below w0.heap.size w0 X->Calls Tryz.prog 11 #[.slice (some ⟨gk,ok,none⟩) m ck,.int .i64 (x.p:Int)] X fun e w'=>e=.returned (.int .i64 (1+ow (zaZ x.c) br:Nat))/\w'=X):=fun X hX=>by
  have:=zhP gk ok m ck x.p pd E.pdl hxp hm X (zaS E.code hX)
  rwa [hsz] at this
 have HPR:Hid (∀ X,Calls Tryz.prog 12 #[.int .i64 (x.c:Int)] X fun e w'=>e=.returned (.int .i64 (gT x.c:Int))/\Below X.heap.size X w'):=fun X=>znG x.c hc28 X
 have HWA:Hid (∀ X,Calls Tryz.prog 13 #[.int .i64 (x.c:Int)] X fun e w'=>e=.returned (.int .i64 (wn x.c:Int))/\Below X.heap.size X w'):=fun X=>znR x.c hc28 X
 have HLV:Hid (∀ X,Calls Tryz.prog 14 #[.int .i64 (x.c:Int)] X fun e w'=>e=.returned (.int .i64 (lv x.c:Int))/\Below X.heap.size X w'):=fun X=>zkB x.c hc28 X
 have HB6:Hid (w0.heap.size<=b6):=E.b6l
 have HD:Hid (Dr w0 b4 b6 L w sv st.reverse qv qs):=D
 have hml:(m:Int)<=1024:=by omega
 have hpm:(x.p:Int)<(m:Int):=by omega
 have hpm2:¬ (m:Int)<=(x.p:Int):=by omega
 have eC:IntKind.i64.wrap (x.c:Int)=(x.c:Int):=by rw[IntKind.wrap_i64];omega
 have hci:(x.c:Int)<28:=by omega
 have k0:=HK0.out w D.be
 have hl:(l:Int)<=10000:=by have:=hRd.2.1;omega
 have hsl:=hRd.2.2.2.2
 obtain⟨htw,ht5,htt,hvv⟩:=tT_few x.c x.n hc28
 obtain⟨l2,hl2⟩:∃ l2,l2=l-gT x.c:=⟨_,rfl⟩
 have el2:(l:Int)-(gT x.c:Int)=(l2:Int):=by omega
 have hgi:¬ (l:Int)<(gT x.c:Int):=by omega
 have hgb:(gT x.c:Int)<=10000:=by omega
 have hl2b:(l2:Int)<=10000:=by omega
 have hop:(br.getD 0 0#8).toNat<256:=BitVec.isLt _
 have HK1S:Hid ((((1+ow (zaZ x.c) br:Nat):Int)==2)=true->∀ X,Below w0.heap.size w0 X->X.cell? ⟨gk,ok+(x.p+1),none⟩=some (.int .u8 (((br.getD 0 0#8).toNat:Nat):Int))):=fun h=>HK1.out (by have:((1+ow (zaZ x.c) br:Nat):Int)=2:=eq_of_beq h;omega)
 obtain⟨A0,cap0,hsv,_,_⟩:=Lw.form HD.out.st
 rw[List.length_reverse] at hsv
 subst hsv
 subst hp
 obtain⟨hw1,hw2,_⟩:=znA x.c x.n st.length hc28 hf0
 have hlen:st.reverse.length=st.length:=List.length_reverse
 obtain⟨bs,hbs⟩:∃ bs,bs=st.reverse.take (st.length-wn x.c):=⟨_,rfl⟩
 obtain⟨tops,htp⟩:∃ t,t=st.reverse.drop (st.length-wn x.c):=⟨_,rfl⟩
 have hss:st.reverse=bs++tops:=by rw[hbs,htp,List.take_append_drop]
 have hbl:bs.length=st.length-wn x.c:=by rw[hbs,List.length_take,hlen];omega
 have htl:tops.length=wn x.c:=by rw[htp,List.length_drop,hlen];omega
 have hcs:∀ (P1 P2:Prop),(x.c≠4->x.c≠5->P1)->(x.c=4\/x.c=5->P2)->((((1+ow (zaZ x.c) br:Nat):Int)==2)=false/\((x.c:Int)==4)=false/\((x.c:Int)==5)=false/\P1)\/((((1+ow (zaZ x.c) br:Nat):Int)==2)=true/\((x.c:Int)==4)=false/\((x.c:Int)==5)=false/\P1)\/((((1+ow (zaZ x.c) br:Nat):Int)==2)=true/\((x.c:Int)==4)=true/\((x.c:Int)==5)=false/\P2)\/((((1+ow (zaZ x.c) br:Nat):Int)==2)=true/\((x.c:Int)==4)=false/\((x.c:Int)==5)=true/\P2):=fun P1 P2 h1 h2=>by
  simp only[beq_eq_false_iff_ne,beq_iff_eq,ne_eq]
  by_cases q4:x.c=4
  ·have:=(h45 (.inl q4)).1
   exact .inr (.inr (.inl ⟨by omega,by omega,by omega,h2 (.inl q4)⟩))
  by_cases q5:x.c=5
  ·have:=(h45 (.inr q5)).1
   exact .inr (.inr (.inr ⟨by omega,by omega,by omega,h2 (.inr q5)⟩))
  by_cases q2:1+ow (zaZ x.c) br=2
  ·exact .inr (.inl ⟨by omega,by omega,by omega,h1 q4 q5⟩)
  ·exact .inl ⟨by omega,by omega,by omega,h1 q4 q5⟩
 refine yaE (.slice Ar nr cr0) x.c (1+ow (zaZ x.c) br) (gT x.c) (wn x.c) (lv x.c) (br.getD 0 0#8).toNat st.length l l2 x.p f A0 cap0 qv qs st.reverse w HD HK0 HK1S HSZ HPR HWA HLV hml hpm (by omega) (by omega) hci hl (by omega) el2 (by omega) (by omega) (by omega) (by omega) code bs tops (hcs _ _ (fun q4 q5=>by have:=htw q4 q5;omega) (fun q=>by have h1:=ht5 q;have h2:=(h45 q).2;omega)) (by omega) (by omega) hss htl (x.p+(1+ow (zaZ x.c) br)) (by omega) ?_
 intro lst X op gv cv hop1 hop2 hW
 refine hK lst X _ bs tops l2 _ _ op gv cv ⟨hRd,hx,hc28,hg,hf0,hf1,hss,htl,hl2,hpn.symm,rfl,fun hc=>?_,?_⟩ hW
 ·obtain⟨q1,q2⟩:=zmZ hc how hro
  rw[hop2 (by rw[q1];rfl),q2]
 ·rcases hop1 with h|h
  ·exact⟨0,h,by decide⟩
  ·exact⟨_,h,hop⟩
theorem r_ref (E:Env w0 pd ls ags rs cl G L Aa Ar na ca nr cr0 gk ok m ck b4 b6) (f:Nat->Value) (sv qv:Value) (l nx p:Nat) (st:List Nat) (qs:List (List Value)) (x:Ins) (w:World) (D:Dr w0 b4 b6 L w sv st.reverse qv qs) (hRd:Rd cl ags ls rs R Q G st l nx qs) (hp:p=zgT ls m nx) (hx:ls[nx]?=some x) (hR:zcH G R=(RV,RE)) (hret:∀ a w,RP w0 b6 RV RE Q a w->Q0 .ret a w) (hg:gT x.c<=l) (hf:st.length<tT x.c x.n\/64<st.length-tT x.c x.n+lT x.c x.n) (code:Code) :
 Code.wp Tryz.prog (rpre code) (Exit.then I Q0) ⟨frh (.slice (some ⟨gk,ok,none⟩) m ck) (.slice Ar nr cr0) b4 b6 sv qv l p f,[]⟩ w:=by
 obtain⟨hm,hxp,hc28,hpl,bb,br,hd,hbb,how,hro,hsz,hpn⟩:=ziA E.pdl E.chk hx
 rw[hpl] at hp
 have hdl:=congrArg List.length hd
 rw[List.length_drop,List.length_cons,E.pdl] at hdl
 have hb0:=zdA hd 0
 rw[Nat.add_zero,List.getD_cons_zero] at hb0
 have hk0:=fun X hX=>E.at x.p hxp X hX
 rw[hb0,hbb] at hk0
 have HK0:Hid (∀ X,Below w0.heap.size w0 X->X.cell? ⟨gk,ok+x.p,none⟩=some (.int .u8 ((x.c:Nat):Int))):=hk0
 have HK1:Hid (1<=br.length->∀ X,Below w0.heap.size w0 X->X.cell? ⟨gk,ok+(x.p+1),none⟩=some (.int .u8 (((br.getD 0 0#8).toNat:Nat):Int))):=fun hh X hX=>by
  have:=E.at (x.p+1) (by omega) X hX
  rwa [zdA hd 1,List.getD_cons_succ] at this
 have h45:x.c=4\/x.c=5->1+ow (zaZ x.c) br=2/\(br.getD 0 0#8).toNat=x.n:=fun hc=>by
  obtain⟨q1,q2⟩:=zmZ (by omega) how hro
  exact⟨by omega,q2⟩
 have HSZ:Hid (∀ X,Below w0.heap.size w0 X->Calls Tryz.prog 11 #[.slice (some ⟨gk,ok,none⟩) m ck,.int .i64 (x.p:Int)] X fun e w'=>e=.returned (.int .i64 (1+ow (zaZ x.c) br:Nat))/\w'=X):=fun X hX=>by
  have:=zhP gk ok m ck x.p pd E.pdl hxp hm X (zaS E.code hX)
  rwa [hsz] at this
 have HPR:Hid (∀ X,Calls Tryz.prog 12 #[.int .i64 (x.c:Int)] X fun e w'=>e=.returned (.int .i64 (gT x.c:Int))/\Below X.heap.size X w'):=fun X=>znG x.c hc28 X
 have HWA:Hid (∀ X,Calls Tryz.prog 13 #[.int .i64 (x.c:Int)] X fun e w'=>e=.returned (.int .i64 (wn x.c:Int))/\Below X.heap.size X w'):=fun X=>znR x.c hc28 X
 have HLV:Hid (∀ X,Calls Tryz.prog 14 #[.int .i64 (x.c:Int)] X fun e w'=>e=.returned (.int .i64 (lv x.c:Int))/\Below X.heap.size X w'):=fun X=>zkB x.c hc28 X
 have HB6:Hid (w0.heap.size<=b6):=E.b6l
 have HD:Hid (Dr w0 b4 b6 L w sv st.reverse qv qs):=D
 have hml:(m:Int)<=1024:=by omega
 have hpm:(x.p:Int)<(m:Int):=by omega
 have hpm2:¬ (m:Int)<=(x.p:Int):=by omega
 have eC:IntKind.i64.wrap (x.c:Int)=(x.c:Int):=by rw[IntKind.wrap_i64];omega
 have hci:(x.c:Int)<28:=by omega
 have k0:=HK0.out w D.be
 have hl:(l:Int)<=10000:=by have:=hRd.2.1;omega
 have hsl:=hRd.2.2.2.2
 obtain⟨htw,ht5,htt,hvv⟩:=tT_few x.c x.n hc28
 obtain⟨l2,hl2⟩:∃ l2,l2=l-gT x.c:=⟨_,rfl⟩
 have el2:(l:Int)-(gT x.c:Int)=(l2:Int):=by omega
 have hgi:¬ (l:Int)<(gT x.c:Int):=by omega
 have hgb:(gT x.c:Int)<=10000:=by omega
 have hl2b:(l2:Int)<=10000:=by omega
 have hop:(br.getD 0 0#8).toNat<256:=BitVec.isLt _
 have HK1S:Hid ((((1+ow (zaZ x.c) br:Nat):Int)==2)=true->∀ X,Below w0.heap.size w0 X->X.cell? ⟨gk,ok+(x.p+1),none⟩=some (.int .u8 (((br.getD 0 0#8).toNat:Nat):Int))):=fun h=>HK1.out (by have:((1+ow (zaZ x.c) br:Nat):Int)=2:=eq_of_beq h;omega)
 obtain⟨A0,cap0,hsv,_,_⟩:=Lw.form HD.out.st
 rw[List.length_reverse] at hsv
 subst hsv
 subst hp
 have hq:stU cl ags ls rs x st l nx qs.length=(.error 103,[]):=by unfold stU;rw[if_neg (by omega),if_pos hf]
 obtain⟨hR2,hQ2,_⟩:=(hRd.step E.vals x hx hc28).1 _ _ hq
 rw[List.append_nil] at hQ2
 rw[hR2] at hR
 have h2:=Prod.mk.inj hR
 have hcs:∀ (P1 P2:Prop),(x.c≠4->x.c≠5->P1)->(x.c=4\/x.c=5->P2)->((((1+ow (zaZ x.c) br:Nat):Int)==2)=false/\((x.c:Int)==4)=false/\((x.c:Int)==5)=false/\P1)\/((((1+ow (zaZ x.c) br:Nat):Int)==2)=true/\((x.c:Int)==4)=false/\((x.c:Int)==5)=false/\P1)\/((((1+ow (zaZ x.c) br:Nat):Int)==2)=true/\((x.c:Int)==4)=true/\((x.c:Int)==5)=false/\P2)\/((((1+ow (zaZ x.c) br:Nat):Int)==2)=true/\((x.c:Int)==4)=false/\((x.c:Int)==5)=true/\P2):=fun P1 P2 h1 h2=>by
  simp only[beq_eq_false_iff_ne,beq_iff_eq,ne_eq]
  by_cases q4:x.c=4
  ·have:=(h45 (.inl q4)).1
   exact .inr (.inr (.inl ⟨by omega,by omega,by omega,h2 (.inl q4)⟩))
  by_cases q5:x.c=5
  ·have:=(h45 (.inr q5)).1
   exact .inr (.inr (.inr ⟨by omega,by omega,by omega,h2 (.inr q5)⟩))
  by_cases q2:1+ow (zaZ x.c) br=2
  ·exact .inr (.inl ⟨by omega,by omega,by omega,h1 q4 q5⟩)
  ·exact .inl ⟨by omega,by omega,by omega,h1 q4 q5⟩
 refine zzC (.slice Ar nr cr0) x.c (1+ow (zaZ x.c) br) (gT x.c) (wn x.c) (lv x.c) (br.getD 0 0#8).toNat st.length l l2 x.p f A0 cap0 qv qs st.reverse w HD HK0 HK1S HSZ HPR HWA HLV hml hpm (by omega) (by omega) hci hl (by omega) el2 (by omega) (by omega) (by omega) (by omega) code ?_ RV RE Q h2.1.symm h2.2.symm hQ2 E.b6l hret
 by_cases hfe:st.length<tT x.c x.n
 ·exact .inl (hcs _ _ (fun q4 q5=>by have:=htw q4 q5;omega) (fun q=>by have h1:=ht5 q;have h2:=(h45 q).2;omega))
 ·obtain⟨hw1,hw2,_⟩:=znA x.c x.n st.length hc28 (by omega)
  refine .inr ⟨hcs _ _ (fun q4 q5=>by have:=htw q4 q5;omega) (fun q=>by have h1:=ht5 q;have h2:=(h45 q).2;omega),st.length-wn x.c,by omega,by omega⟩
theorem zhE {kv rv qv sv:Value} {qs:List (List Value)} {bs tops on:List Nat} {l l2 p2 n:Nat} {lst:List Value} {X:World} (B:Bt w0 b4 b6 L kv rv qv qs bs tops on l2 p2 n sv lst X) (nx2:Nat) (st2:List Nat) (hRd:Rd cl ags ls rs R Q G st2 l2 nx2 qs) (hrv:bs++on=st2.reverse) (hp2:p2=zgT ls m nx2) (hn2:nx2<=ls.length) (hlt:l2<l) :
 Code.wp Tryz.prog rbt (Exit.inBlock 1 (Exit.then (fun a w=>WI w0 b4 b6 L kv rv cl ags ls rs R Q G m a w/\Wmu a<l) Q0)) ⟨lst.toArray,[]⟩ X:=by
 obtain⟨f,hf,e⟩:=zoK lst B.len
 rw[e]
 unfold fra
 have e0:=(hf 0).trans B.f0
 have e2:=(hf 2).trans B.f2
 have e4:=(hf 4).trans B.f4
 have e6:=(hf 6).trans B.f6
 have e9:=(hf 9).trans B.f9
 have e10:=(hf 10).trans B.f10
 have e11:=(hf 11).trans B.f11
 have e17:=(hf 17).trans B.f17
 have e19:=(hf 19).trans B.f19
 have HRD:Hid (Rd cl ags ls rs R Q G st2 l2 nx2 qs):=hRd
 have HRV2:Hid (bs++on=st2.reverse):=hrv
 have HPN:Hid (p2=zgT ls m nx2):=hp2
 have HN2:Hid (nx2<=ls.length):=hn2
 have HLT:Hid (l2<l):=hlt
 have HD:Hid (Dr w0 b4 b6 L X sv (bs++tops) qv qs):=B.dr
 have HN:Hid (bs.length+tops.length<=64):=B.n64
 have hbi:(bs.length:Int)<=64:=by have:=B.n64;omega
 have HSTK:Hid (∀ Y,Below X.heap.size X Y->Lw Y 27 4 sv (bs.length+tops.length) (fw (bs++tops))):=fun Y hY=>by
  have h:=Lw.be HD.out.st hY
  rwa [List.length_append] at h
 obtain⟨A0,cap0,hsv,_,_⟩:=Lw.form B.dr.st
 rw[List.length_append] at hsv
 have hon:=B.on
 clear hRd hrv hp2 hn2 hlt e B
 rcases hon with ⟨hn,h20⟩|⟨r,gO,hn,h20,hr⟩
 ·have e20:=(hf 20).trans h20
  subst hn
  obtain⟨iw,HIW⟩:=zmS
  clear h20
  subst hsv
  simp only[e0,e2,e4,e6,e9,e10,e11,e17,e19,e20]
  clear e0 e2 e4 e6 e9 e10 e11 e17 e19 e20 hf
  conv=>arg 2;whnf
  go_wp2_with (first
  |(refine ziR rfl (.tmp 355) (.tmp 356) rfl _ (bs.length+tops.length) bs.length bs tops rfl rfl (HSTK.out _ ((Below.refl _ _).alloc (Nat.le_refl _) _)) rfl rfl ?_;intro Ab cb hSin;have HSIB:Hid (Sin _ 4 Ab bs.length cb (fw bs)):=hSin;clear hSin;simp only[Act.put,jA,jB,jC])
  |(refine zcY 28 27 4 32 Tryz.underlying28 zbO (by decide) rfl (.tmp 354) (.tmp 357) rfl X.heap.size rfl (Row.new' rfl rfl:Row _ _ [] _) Ab bs.length cb (fw bs) rfl HSIB.out (by have:=HN.out;unfold maxLen;omega) (by have:=HN.out;omega) ?_;intro gs cs X20 q1 q2 q3 q4;have HS20:Hid (Lw X20 27 4 (.slice (some ⟨gs,0,none⟩) bs.length cs) bs.length (fw bs)):=q1;have hk20:Below X.heap.size X X20:=((Below.refl _ _).alloc (Nat.le_refl _) _).trans (q3.mono (by simp));have D20:Hid (Dr w0 b4 b6 L X20 _ (bs++tops) qv qs):=HD.out.keep hk20;have HG20:Hid (X.heap.size<=gs):=zrK q4;clear q1 q2 q3 q4 hk20;simp only[Act.put,jA,jB,jC])
  |(refine wpList_append_own_none rfl (.tmp 358) (.tmp 359) 28 rfl 0 27 iw 4 Tryz.underlying28 HIW _ bs.length (fw bs) rfl HS20.out rfl ?_;simp only[Act.put,jA,jB,jC]))
  refine⟨⟨_,l2,nx2,st2,_,_,qs,rfl,rfl,rfl,rfl,rfl,rfl,rfl,rfl,rfl,?_,?_,HRD.out,HN2.out⟩,?_⟩
  ·show Value.int .i64 _=_;rw[HPN.out]
  ·rw[<-HRV2.out]
   rw[List.append_nil];exact dr_base D20.out HS20.out rfl (Nat.le_trans HD.out.be.size HG20.out)
  ·show (intOf (Value.int .i64 (l2:Int))).toNat<l
   have:=HLT.out
   simp [intOf]
   omega
 ·have e20:=(hf 20).trans h20
  subst hn
  have HO:Hid (X.rangeAt gO 0 (wq r)):=hr
  clear h20 hr
  subst hsv
  simp only[e0,e2,e4,e6,e9,e10,e11,e17,e19,e20]
  clear e0 e2 e4 e6 e9 e10 e11 e17 e19 e20 hf
  conv=>arg 2;whnf
  go_wp2_with (first
  |(refine ziR rfl (.tmp 355) (.tmp 356) rfl _ (bs.length+tops.length) bs.length bs tops rfl rfl (HSTK.out _ ((Below.refl _ _).alloc (Nat.le_refl _) _)) rfl rfl ?_;intro Ab cb hSin;have HSIB:Hid (Sin _ 4 Ab bs.length cb (fw bs)):=hSin;clear hSin;simp only[Act.put,jA,jB,jC])
  |(refine zcY 28 27 4 32 Tryz.underlying28 zbO (by decide) rfl (.tmp 354) (.tmp 357) rfl X.heap.size rfl (Row.new' rfl rfl:Row _ _ [] _) Ab bs.length cb (fw bs) rfl HSIB.out (by have:=HN.out;unfold maxLen;omega) (by have:=HN.out;omega) ?_;intro gs cs X20 q1 q2 q3 q4;have HS20:Hid (Lw X20 27 4 (.slice (some ⟨gs,0,none⟩) bs.length cs) bs.length (fw bs)):=q1;have hk20:Below X.heap.size X X20:=((Below.refl _ _).alloc (Nat.le_refl _) _).trans (q3.mono (by simp));have D20:Hid (Dr w0 b4 b6 L X20 _ (bs++tops) qv qs):=HD.out.keep hk20;have HG20:Hid (X.heap.size<=gs):=zrK q4;have HO20:Hid (X20.rangeAt gO 0 (wq r)):=zaS HO.out hk20;clear q1 q2 q3 q4 hk20;simp only[Act.put,jA,jB,jC])
  |(refine zdU 28 27 4 32 Tryz.underlying28 zbO (by decide) (by decide) rfl (.tmp 358) (.tmp 359) rfl _ bs.length (fw bs) (wq r) rfl HS20.out gO (zaV _) rfl HO20.out (zvN _) (by have:=HN.out;omega) ?_;intro v21 X21 q1 q2 q3;have HS21:Hid (Lw X21 27 4 v21 (bs.length+1) (fw bs++wq r)):=q1;have HG21:Hid (X20.grownBy X21 (some gs)):=q2;have HO21:Hid (v21.ownBlock=some gs\/v21.ownBlock=some X20.heap.size):=q3;clear q1 q2 q3;simp only[Act.put,jA,jB,jC]))
  refine⟨⟨_,l2,nx2,st2,_,_,qs,rfl,rfl,rfl,rfl,rfl,rfl,rfl,rfl,rfl,?_,?_,HRD.out,HN2.out⟩,?_⟩
  ·show Value.int .i64 _=_;rw[HPN.out]
  ·rw[<-HRV2.out]
   exact dr_push D20.out HG21.out HS20.out HS21.out rfl HO21.out (Nat.le_trans HD.out.be.size HG20.out)
  ·show (intOf (Value.int .i64 (l2:Int))).toNat<l
   have:=HLT.out
   simp [intOf]
   omega
end
def frc (kv rv:Value) (b4 b6:Nat) (sv qv:Value) (l2 p:Nat) (c:Int) (s:Nat) (op:Int) (kk gv tl cv p2:Nat) (f:Nat->Value):Array Value:=#[kv,f 1,rv,f 3,.pointer (some ⟨b4,0,none⟩),f 5,.pointer (some ⟨b6,0,none⟩),f 7,f 8,sv,qv,.int .i64 (l2:Int),.int .i64 (p:Int),.int .i64 c,.int .i64 (s:Int),.int .i64 op,f 16,.int .i64 (kk:Int),.slice (some ⟨gv,0,none⟩) tl cv,.int .i64 (p2:Int),.slice none 0 0,f 21,f 22,f 23,f 24,f 25,f 26,f 27,f 28,f 29,f 30,f 31,f 32,f 33,f 34,f 35,f 36,f 37,f 38,f 39,f 40,f 41,f 42,f 43,f 44,f 45,f 46,f 47,f 48,f 49,f 50,f 51,f 52,f 53,f 54,f 55,f 56,f 57,f 58,f 59,f 60,f 61,f 62,f 63,f 64,f 65,f 66,f 67,f 68,f 69,f 70,f 71,f 72,f 73,f 74,f 75,f 76,f 77,f 78,f 79,f 80,f 81,f 82,f 83,f 84,f 85,f 86,f 87,f 88,f 89,f 90,f 91,f 92,f 93,f 94,f 95,f 96,f 97,f 98,f 99,f 100,f 101,f 102,f 103,f 104,f 105,f 106,f 107,f 108,f 109,f 110,f 111,f 112,f 113,f 114,f 115,f 116,f 117,f 118,f 119,f 120,f 121,f 122,f 123,f 124,f 125,f 126,f 127,f 128,f 129,f 130,f 131,f 132,f 133,f 134,f 135,f 136,f 137,f 138,f 139,f 140,f 141,f 142,f 143,f 144,f 145,f 146,f 147,f 148,f 149,f 150,f 151,f 152,f 153,f 154,f 155,f 156,f 157,f 158,f 159,f 160,f 161,f 162,f 163,f 164,f 165,f 166,f 167,f 168,f 169,f 170,f 171,f 172,f 173,f 174,f 175,f 176,f 177,f 178,f 179,f 180,f 181,f 182,f 183,f 184,f 185,f 186,f 187,f 188,f 189,f 190,f 191,f 192,f 193,f 194,f 195,f 196,f 197,f 198,f 199,f 200,f 201,f 202,f 203,f 204,f 205,f 206,f 207,f 208,f 209,f 210,f 211,f 212,f 213,f 214,f 215,f 216,f 217,f 218,f 219,f 220,f 221,f 222,f 223,f 224,f 225,f 226,f 227,f 228,f 229,f 230,f 231,f 232,f 233,f 234,f 235,f 236,f 237,f 238,f 239,f 240,f 241,f 242,f 243,f 244,f 245,f 246,f 247,f 248,f 249,f 250,f 251,f 252,f 253,f 254,f 255,f 256,f 257,f 258,f 259,f 260,f 261,f 262,f 263,f 264,f 265,f 266,f 267,f 268,f 269,f 270,f 271,f 272,f 273,f 274,f 275,f 276,f 277,f 278,f 279,f 280,f 281,f 282,f 283,f 284,f 285,f 286,f 287,f 288,f 289,f 290,f 291,f 292,f 293,f 294,f 295,f 296,f 297,f 298,f 299,f 300,f 301,f 302,f 303,f 304,f 305,f 306,f 307,f 308,f 309,f 310,f 311,f 312,f 313,f 314,f 315,f 316,f 317,f 318,f 319,f 320,f 321,f 322,f 323,f 324,f 325,f 326,f 327,f 328,f 329,f 330,f 331,f 332,f 333,f 334,f 335,f 336,f 337,f 338,f 339,f 340,f 341,f 342,f 343,f 344,f 345,f 346,f 347,f 348,f 349,f 350,f 351,f 352,f 353,f 354,f 355,f 356,f 357,f 358,f 359,f 360,f 361]
theorem Sw.open {w0:World} {b4 b6:Nat} {L:List Value} {kv rv qv:Value} {qs:List (List Value)} {bs tops:List Nat} {c p l2 p2 s:Nat} {op:Int} {gv cv:Nat} {sv:Value} {lst:List Value} {X:World} (W:Sw w0 b4 b6 L kv rv qv qs bs tops c p l2 p2 s op gv cv sv lst X) (z:Int) (hz:(c:Int)=z) (t:Nat) (ht:tops.length=t):∃ f:Nat->Value,(∀ k,f k=lst.getD k undef)/\lst.toArray=frc kv rv b4 b6 sv qv l2 p z s op bs.length gv t cv p2 f:=by
 obtain⟨f,hf,e⟩:=zoK lst W.len
 refine⟨f,hf,e.trans ?_⟩
 unfold fra frc
 simp only[(hf 0).trans W.f0,(hf 2).trans W.f2,(hf 4).trans W.f4,(hf 6).trans W.f6,(hf 9).trans W.f9,(hf 10).trans W.f10,(hf 11).trans W.f11,(hf 12).trans W.f12,(hf 13).trans W.f13,(hf 14).trans W.f14,(hf 15).trans W.f15,(hf 17).trans W.f17,(hf 18).trans W.f18,(hf 19).trans W.f19,(hf 20).trans W.f20,hz,ht]
theorem zzE {w0 Y X:World} {b4 b6:Nat} {L:List Value} {sv qv:Value} {ss:List Nat} {qs Q:List (List Value)} {RV cs lst:List Value} {RE:Int} (h6:lst.getD 6 undef=.pointer (some ⟨b6,0,none⟩)) (h7:lst.getD 7 undef=.int .i64 RE) (h8:lst.getD 8 undef=qv) (D:Dr w0 b4 b6 L Y sv ss qv qs) (hX:X=Y.setCells b6 0 cs) (r:Row X b6 cs 35) (hB:w0.heap.size<=b6) (hRV:RV=cs) (hQ:Q=qs):RP w0 b6 RV RE Q ⟨lst.toArray,[]⟩ X:=by
 obtain⟨A7,c7,hv,_,_⟩:=Lw.form D.aq
 refine⟨lst,A7,c7,rfl,h6,h7,?_,by rw[hRV];exact r,?_,?_⟩
 ·rw[hQ,<-hv];exact h8
 ·rw[hQ,<-hv];exact zeQ D hX
 ·rw[hX];exact zaC D.be hB cs
section
variable {w0:World} {pd:List (BitVec 8)} {ls:List Ins} {ags:List Nat} {rs:List (Nat × Int)} {cl:Cl} {G:Nat} {L:List Value} {Aa Ar:Option Addr} {na ca nr cr0 gk ok m ck b4 b6:Nat} {R:Except Int (Nat × Nat)} {Q:List (List Value)} {RV:List Value} {RE:Int} {Q0:Exit->Act->World->Prop} {I:Act->World->Prop}
variable {x:Ins} {l nx l2 p2 s:Nat} {st bs tops:List Nat} {qs:List (List Value)} {op:Int}
theorem Sx.stU (S:Sx ls ags rs cl G R Q m x l nx st qs bs tops l2 p2 s op):stU cl ags ls rs x st l nx qs.length=if x.c=1 then (.ok (st.drop 1,nx+1),[]) else if x.c<24 then (exi cl ags ls x.c x.a x.n st (l-gT x.c) (nx+1),[]) else exh rs x.c st (nx+1) qs.length:=by
 have h1:=S.gas
 have h2:=S.few
 have h3:=S.much
 unfold Go.Proofs.YtedeobikfddmgaaGreat.stU
 rw[if_neg (by omega),if_neg (by omega)]
theorem Sx.next (S:Sx ls ags rs cl G R Q m x l nx st qs bs tops l2 p2 s op) (V:zpW (2 ^ 256) cl ags ls rs) {st':List Nat} {nx':Nat} {q:List (List Value)} (hq:Go.Proofs.YtedeobikfddmgaaGreat.stU cl ags ls rs x st l nx qs.length=(.ok (st',nx'),q)) (h1:x.c≠1):Rd cl ags ls rs R Q G st' l2 nx' (qs++q)/\nx'<=ls.length/\l2<l:=by
 rw[S.el]
 exact ((S.rd.step V x S.hx S.c28).2 _ _ _ hq).2 h1
theorem Sx.err (S:Sx ls ags rs cl G R Q m x l nx st qs bs tops l2 p2 s op) (V:zpW (2 ^ 256) cl ags ls rs) (hR:zcH G R=(RV,RE)) {F:Int} {q:List (List Value)} (hq:Go.Proofs.YtedeobikfddmgaaGreat.stU cl ags ls rs x st l nx qs.length=(.error F,q)):RV=zR/\RE=F/\Q=qs++q:=by
 obtain⟨h1,h2,_⟩:=(S.rd.step V x S.hx S.c28).1 _ _ hq
 rw[h1] at hR
 have h3:=Prod.mk.inj hR
 exact⟨h3.1.symm,h3.2.symm,h2⟩
theorem Sx.stk (S:Sx ls ags rs cl G R Q m x l nx st qs bs tops l2 p2 s op):st=tops.reverse++bs.reverse:=by
 have:=congrArg List.reverse S.rev
 rwa [List.reverse_reverse,List.reverse_append] at this
theorem Sx.n64 (S:Sx ls ags rs cl G R Q m x l nx st qs bs tops l2 p2 s op):bs.length+tops.length<=64:=by
 have h:=congrArg List.length S.rev
 rw[List.length_reverse,List.length_append] at h
 have:=S.rd.2.2.2.2
 omega
theorem Sx.lt (S:Sx ls ags rs cl G R Q m x l nx st qs bs tops l2 p2 s op):∀ a ∈ tops,a<2 ^ 256:=fun a h=>S.rd.2.2.2.1 a (by rw[S.stk];exact List.mem_append_left _ (List.mem_reverse.2 h))
theorem Sx.l2b (S:Sx ls ags rs cl G R Q m x l nx st qs bs tops l2 p2 s op):l2<=10000:=by
 have h1:=S.rd.2.1
 have h2:=S.el
 omega
end
theorem zgV {l:List Nat} (h:l.length=2):∃ a b,l=[a,b]:=match l,h with
 |[a,b],_=>⟨a,b,rfl⟩
theorem len3H {l:List Nat} (h:l.length=3):∃ a b c,l=[a,b,c]:=match l,h with
 |[a,b,c],_=>⟨a,b,c,rfl⟩
theorem zcB {X:World} {gv n cv:Nat} {tops:List Nat} (h:Lw X 27 4 (.slice (some ⟨gv,0,none⟩) n cv) n (fw tops)) (i a:Nat) (ha:tops[i]?=some a):X.rangeAt gv (i*4) (wq a):=zjV (Lw.range h) i a ha
end Go.Proofs.YtedeobikfddmgaaGreat
