import Derived.Test.YtedeobikfddmgaaGreatMkAA
import Derived.Test.YtedeobikfddmgaaGreatMkEi
set_option maxRecDepth 100000
set_option maxHeartbeats 16000000
namespace Go.Proofs.YtedeobikfddmgaaGreat
open Go Go.RowKit
open Sha
open Wd
theorem arg_out (r T gs n:Nat) (pl:Value) (C:List Value) (h av stk:Value) (ss:List Nat) (l nx:Nat) (an:List Value) (ls:List Ins) (ags:List Nat) (ci pi ai ni:Nat) (hx:ags.length<=ni) (hni:ni<=1000) (k0 w0 w:World) (H:Rn k0 w0 w r T gs n pl C h av stk (ss) l nx an ls ags) (hss:ss.length<=1000):Calls Tryz.prog 56 #[.pointer (some ⟨r,0,none⟩),.agg (ic ci pi ai ni).toArray] w fun e w'=>e=.returned (.int .i64 0)/\∃ stk',Rn k0 w0 w' r T gs n pl C h av stk' (ss++[0]) l nx an ls ags:=by
 obtain⟨A0,c0,hav,_,_⟩:=Lw.form H.arg
 obtain⟨k,hk⟩:∃ k,k=ags.length:=⟨_,rfl⟩
 have HAV:Hid (av=.slice A0 k c0):=by rw[hk];exact hav
 have hge:(k:Int)<=(ni:Int):=by omega
 have hkl:k<=1000:=by omega
 obtain⟨I,hI⟩:∃ I,I=ic ci pi ai ni:=⟨_,rfl⟩
 have HIC:Hid (I=ic ci pi ai ni):=hI
 rw[<-hI]
 have HLC:Hid (∀ W,Rn k0 w0 W r T gs n pl C h av stk (ss) l nx an ls ags->Calls Tryz.prog 83 #[.pointer (some ⟨r,0,none⟩),.int .i64 0] W fun e w'=>e=.returned (.int .i64 0)/\∃ stk',Rn k0 w0 w' r T gs n pl C h av stk' (ss++[0]) l nx an ls ags):=fun W hW=>zrX r T gs n pl C h av stk ss l nx an ls ags k0 w0 W hW hss
 have HH:Hid (Rn k0 w0 w r T gs n pl C h av stk (ss) l nx an ls ags):=H
 clear H hss hI hk hav hx
 go_enter Tryz.func56,Tryz.ntmps56
 go_upto_region 1 with (refine zaF 97 rfl (.tmp 1) rfl I rfl ?_;intro X1 q1 q2 q3;have R1:Hid (Row X1 w.heap.size I 97):=q1;have HR:Hid (Rn k0 w0 X1 r T gs n pl C h av stk (ss) l nx an ls ags):=HH.out.keep q2;clear q1 q2 q3;simp only[Act.put,jA,jB,jC])
 have c6:X1.cell? ⟨w.heap.size,6,none⟩=some (.int .i64 (ni:Int)):=R1.out.cell 6 _ (by rw[HIC.out];exact zsZ _ _ _ _)
 have c48:X1.cell? ⟨r,48,none⟩=some (.slice A0 k c0):=HR.out.row.cell 48 _ ((zgZ HR.out.clen 45 (by decide)).trans (HR.out.cargs.trans (congrArg some HAV.out)))
 go_quiet (fail)
 clear c6 c48
 go_wp2_with (go_at_call 83;refine Calls.mono (HLC.out _ (HR.out.drewN _)) ?_;rintro e X9 ⟨rfl,stk',q⟩;have HQ:Hid (Rn k0 w0 X9 r T gs n pl C h av stk' (ss++[0]) l nx an ls ags):=q;clear q)
 go_ret
 exact⟨rfl,_,HQ.out⟩
theorem ziJ (r T gs n:Nat) (pl:Value) (C:List Value) (h av stk:Value) (st:List Nat) (l nx:Nat) (an:List Value) (ls:List Ins) (ags:List Nat) (ci pi ai ni:Nat) (s:ByteArray) (k g t lv:Nat) (FF:FuncId) (hc:ci<28) (hrow:rw ci=[.string s,.int .i64 (k:Int),.int .i64 (g:Int),.int .i64 (t:Int),.int .i64 (lv:Int),.func (.func FF) #[] #[]]) (tt ll:Nat) (hnd:∀ W,Calls Tryz.prog 91 #[.agg #[.string s,.int .i64 (k:Int),.int .i64 (g:Int),.int .i64 (t:Int),.int .i64 (lv:Int),.func (.func FF) #[] #[]],.agg (ic ci pi ai ni).toArray] W fun e w'=>e=.returned (.tuple #[.int .i64 (tt:Int),.int .i64 (ll:Int)])/\Below W.heap.size W w') (hl:l<=10000) (hlm:ll<=64) (hsl:st.length<=64) (hnx:nx<=1024) (k0 w0 w:World) (H:Rn k0 w0 w r T gs n pl C h av stk st.reverse l nx an ls ags) (D:Int->World->Prop) (hcf:∀ args W,(callFunc FF args).run Tryz.prog W=.ok (.enter FF args) W) (hdo:g<=l->tt<=st.length->st.length-tt+ll<=64->∀ W,Rn k0 w0 W r T gs n pl C h av stk st.reverse (l-g) (nx+1) an ls ags->Calls Tryz.prog FF #[.pointer (some ⟨r,0,none⟩),.agg (ic ci pi ai ni).toArray] W fun e w'=>∃ v,e=.returned (.int .i64 v)/\D v w'):Calls Tryz.prog 70 #[.pointer (some ⟨r,0,none⟩),.agg (ic ci pi ai ni).toArray] w fun e w'=>∃ v,e=.returned (.int .i64 v)/\(if l<g then v=102/\∃ stk' ss' l' nx',Rn k0 w0 w' r T gs n pl C h av stk' ss' l' nx' an ls ags else if st.length<tt\/64<st.length-tt+ll then v=103/\∃ stk' ss' l' nx',Rn k0 w0 w' r T gs n pl C h av stk' ss' l' nx' an ls ags else D v w'):=by
 have hrl:st.reverse.length=st.length:=List.length_reverse
 by_cases hg:l<g
 ·refine Calls.mono (zpH r T gs n pl C h av stk st.reverse l nx an ls ags ci pi ai ni s k g t lv FF hc hrow hg k0 w0 w H) ?_
  rintro e w' ⟨rfl,q⟩
  refine⟨102,rfl,?_⟩
  rw[if_pos hg]
  exact⟨rfl,_,_,_,_,q⟩
 by_cases ht:st.length<tt
 ·refine Calls.mono (zpG r T gs n pl C h av stk st.reverse l nx an ls ags ci pi ai ni s k g t lv FF hc hrow tt ll hnd (by omega) hl (by omega) k0 w0 w H) ?_
  rintro e w' ⟨rfl,q⟩
  refine⟨103,rfl,?_⟩
  rw[if_neg hg,if_pos (.inl ht)]
  exact⟨rfl,_,_,_,_,q⟩
 by_cases hm:64<st.length-tt+ll
 ·refine Calls.mono (zlX r T gs n pl C h av stk st.reverse l nx an ls ags ci pi ai ni s k g t lv FF hc hrow tt ll hnd (by omega) hl (by omega) (by omega) hlm (by omega) k0 w0 w H) ?_
  rintro e w' ⟨rfl,q⟩
  refine⟨103,rfl,?_⟩
  rw[if_neg hg,if_pos (.inr hm)]
  exact⟨rfl,_,_,_,_,q⟩
 refine zpI r T gs n pl C h av stk st.reverse l nx an ls ags ci pi ai ni s k g t lv FF hc hrow tt ll hnd (by omega) hl (by omega) (by omega) hlm hnx k0 w0 w H (fun v w'=>(if l<g then v=102/\∃ stk' ss' l' nx',Rn k0 w0 w' r T gs n pl C h av stk' ss' l' nx' an ls ags else if st.length<tt\/64<st.length-tt+ll then v=103/\∃ stk' ss' l' nx',Rn k0 w0 w' r T gs n pl C h av stk' ss' l' nx' an ls ags else D v w')) hcf ?_
 intro W hW
 refine Calls.mono (hdo (by omega) (by omega) (by omega) W hW) ?_
 rintro e w' ⟨v,rfl,q⟩
 refine⟨v,rfl,?_⟩
 rw[if_neg hg,if_neg (by omega)]
 exact q
theorem sp_done (r T gs n:Nat) (pl:Value) (C:List Value) (h av stk:Value) (st:List Nat) (l nx:Nat) (an:List Value) (ls:List Ins) (ags:List Nat) (pi ai ni:Nat) (hl:l<=10000) (hsl:st.length<=64) (hnx:nx<=1024) (k0 w0 w:World) (H:Rn k0 w0 w r T gs n pl C h av stk st.reverse l nx an ls ags):Calls Tryz.prog 70 #[.pointer (some ⟨r,0,none⟩),.agg (ic 1 pi ai ni).toArray] w fun e w'=>∃ v,e=.returned (.int .i64 v)/\(if l<1 then v=102/\∃ stk' ss' l' nx',Rn k0 w0 w' r T gs n pl C h av stk' ss' l' nx' an ls ags else if st.length<1\/64<st.length-1+0 then v=103/\∃ stk' ss' l' nx',Rn k0 w0 w' r T gs n pl C h av stk' ss' l' nx' an ls ags else v=0/\∃ stk',Rn k0 w0 w' r T gs n pl C h av stk' (st.drop 1).reverse (l-1) (nx+1) (wq (st.getD 0 0)) ls ags):=by
 refine ziJ r T gs n pl C h av stk st l nx an ls ags 1 pi ai ni _ 0 1 1 0 41 (by decide) rfl 1 0 (fun W=>zaY _ _ 0 1 1 0 rfl rfl _ W) hl (by omega) hsl hnx k0 w0 w H (fun v w'=>v=0/\∃ stk',Rn k0 w0 w' r T gs n pl C h av stk' (st.drop 1).reverse (l-1) (nx+1) (wq (st.getD 0 0)) ls ags) zrU ?_
 intro hg ht hm W hW
 obtain⟨x,st',rfl⟩:∃ x st',st=x :: st':=by
  cases st with
  |nil=>exact absurd ht (by decide)
  |cons x st'=>exact⟨x,st',rfl⟩
 rw[List.reverse_cons] at hW
 refine Calls.mono (zoG r T gs n pl C h av stk st'.reverse _ _ an ls ags _ x k0 w0 W hW (by rw[List.length_reverse];rw[List.length_cons] at hsl;omega)) ?_
 rintro e w' ⟨rfl,stk',q⟩
 exact⟨0,rfl,rfl,stk',q⟩
theorem sp_arg (r T gs n:Nat) (pl:Value) (C:List Value) (h av stk:Value) (st:List Nat) (l nx:Nat) (an:List Value) (ls:List Ins) (ags:List Nat) (cl:Cl) (pi ai ni:Nat) (hni:ni<=1000) (h8:ags.length<=8) (hl:l<=10000) (hsl:st.length<=64) (hnx:nx<=1024) (k0 w0 w:World) (H:Rn k0 w0 w r T gs n pl C h av stk st.reverse l nx an ls ags):Calls Tryz.prog 70 #[.pointer (some ⟨r,0,none⟩),.agg (ic 16 pi ai ni).toArray] w fun e w'=>∃ v,e=.returned (.int .i64 v)/\StP k0 w0 w' r T gs n pl C h av l an ls ags 2 0 1 st (exi cl ags ls 16 ai ni st (l-2) (nx+1)) v:=by
 refine zcF r T gs n pl C h av stk st l nx an ls ags 16 pi ai ni _ 4 2 0 1 56 (by decide) rfl 0 1 (fun W=>zaY _ _ 4 2 0 1 rfl rfl _ W) hl (by omega) hsl hnx k0 w0 w H _ cf_arg ?_
 intro hg ht hm W hW
 have hr:st.reverse.length<=1000:=by rw[List.length_reverse];omega
 by_cases hx:ni<ags.length
 ·refine Calls.mono (arg_in r T gs n pl C h av stk st.reverse _ _ an ls ags 16 pi ai ni _ (List.getElem?_eq_getElem hx) h8 k0 w0 W hW hr) ?_
  rintro e w' ⟨rfl,stk',q⟩
  refine⟨0,rfl,rfl,stk',?_⟩
  rw[List.reverse_cons,show ags.getD ni 0=ags[ni] by simp [hx]]
  exact q
 ·refine Calls.mono (arg_out r T gs n pl C h av stk st.reverse _ _ an ls ags 16 pi ai ni (by omega) hni k0 w0 W hW hr) ?_
  rintro e w' ⟨rfl,stk',q⟩
  refine⟨0,rfl,rfl,stk',?_⟩
  rw[List.reverse_cons,show ags.getD ni 0=0 by simp [List.getD,List.getElem?_eq_none (Nat.le_of_not_lt hx)]]
  exact q
end Go.Proofs.YtedeobikfddmgaaGreat
