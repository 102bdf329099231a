import Derived.Test.YtedeobikfddmgaaGreatXMem
import Derived.Test.YtedeobikfddmgaaGreatRows
import Derived.ProofKit
import Derived.OpenShut
import Derived.ShutString
import Derived.ChangeOld
import Derived.SizedLaws
import Derived.Deep.DeepHandedRow
import Derived.Lib.LaidTab
import Derived.ChangeMaps5
import Derived.Deep.Matrix
import Derived.Test.YtedeobikfddmgaaGreatMkFk
set_option maxRecDepth 100000
set_option maxHeartbeats 16000000
namespace Go.Proofs.YtedeobikfddmgaaGreat
open Go Go.RowKit Go.ChangeShapes Go.WideShapes Go.ChangeAt
open Sha
theorem own:ownKnob Tryz.prog.godebug=none:=by kernel_rfl
theorem ztE:laidOutB Tryz.prog=true:=by kernel_rfl
theorem zrT:Tryz.prog.cellsOf 5=1:=by kernel_rfl
theorem bytesU8:Tryz.prog.bytesOf 5=1:=by kernel_rfl
theorem zwJ {W:World} {A:Option Addr} {L C:Nat} {Z:List Int} (hL:L<=C) (hZ:Z.length=C) (hw:∀ n ∈ Z,(Lit.int .u8 n).wf=true) (h0:A=none->C=0) (hc:∀ a',A=some a'->∀ c,c<C->W.cell? (a'.add c)=some (.int .u8 (Z.getD c 0))) :
 ((Z.take L).map (BitVec.ofInt 8)).length=L/\SlAt W (.slice A L C) ((Z.take L).map (BitVec.ofInt 8)):=by
 have hl:((Z.take L).map (BitVec.ofInt 8)).length=L:=by simp;omega
 refine⟨hl,?_⟩
 by_cases hz:L=0
 ·subst hz;exact .inl ⟨by simp,_,_,rfl⟩
 ·cases A with
  |none=>have:=h0 rfl;omega
  |some y=>
   obtain⟨b,off,spot⟩:=y
   have hcell:=hc _ rfl
   have h1:=hcell 0 (by omega)
   have hspot:spot=none:=by simpa [Addr.add] using World.cell?_spot h1
   subst hspot
   refine .inr ⟨b,off,C,by rw[hl],by rw[hl];exact hL,fun i v hv=>?_⟩
   have hi:i<L:=by have:=(List.getElem?_eq_some_iff.1 hv).1;rw[zcI,hl] at this;exact this
   have h2:=hcell i (by omega)
   rw[Addr.add_mid] at h2
   rw[h2]
   have hw:=hw (Z.getD i 0) (by rw[List.getD_eq_getElem?_getD,List.getElem?_eq_getElem (by omega)];exact List.getElem_mem _)
   have hb:=bounds_u8 hw
   rw[vB_get _ i (by rw[hl];exact hi)] at hv
   rw[<-hv]
   have e:((Z.take L).map (BitVec.ofInt 8)).getD i 0=BitVec.ofInt 8 (Z.getD i 0):=by
    simp [List.getElem?_take_of_lt hi,List.getElem?_eq_getElem (show i<Z.length by omega)]
   rw[e]
   unfold c
   rw[show ((BitVec.ofInt 8 (Z.getD i 0)).toNat:Int)=Z.getD i 0 from by rw[BitVec.toNat_ofInt];omega]
section
variable {H:Type} {enc:TypeId × Value->H} {W:World} {base:Nat} {held:Bool} {n:Nat}
theorem bytes_f {v:Value} {y:DataW H × List MemPlace} (g:DataW.trod enc Tryz.prog W base (fun _=>true) held n 22 [v]=some y):∃ (d:List (BitVec 8)) (A:Option Addr) (cap:Nat),v=.slice A d.length cap/\SlAt W (.slice A d.length cap) d/\(A=none->cap=0)/\((∀ m ∈ y.1.weights Tryz.prog 22,m<=reachBytes)->d.length<=140737488351232):=by
 have hrb:reachBytes=140737488351232:=rfl
 rcases open_ints Tryz.underlying22 Tryz.underlying5 zrT g with ⟨hcs,hy⟩|⟨a',L,C,Z,hcs,_,hl,hm,hz,hy,hcell,hwz⟩
 ·simp only[List.cons.injEq,and_true] at hcs
  exact⟨[],none,0,hcs,.inl ⟨rfl,_,_,rfl⟩,fun _=>rfl,fun _=>Nat.zero_le _⟩
 ·simp only[List.cons.injEq,and_true] at hcs
  simp only[if_true] at hz
  obtain⟨hlen,hsl⟩:=zwJ (W:=W) (A:=some a') hl hz hwz (fun h=>by cases h) (fun a'' ha c hc=>by cases ha;exact hcell c (by rw[hz];exact hc))
  refine⟨(Z.take L).map (BitVec.ofInt 8),some a',C,by rw[hlen];exact hcs,by rw[hlen];exact hsl,(fun h=>by cases h),fun hw=>?_⟩
  have:=hw (((Z.take L).length+(Z.drop L).length)*1) (by
   rw[hy]
   simp only[DataW.weights,Tryz.underlying22,lits,List.length_map,bytesU8]
   exact List.mem_cons_self)
  simp only[List.length_take,List.length_drop,Nat.mul_one] at this
  rw[hlen];omega
end
end Go.Proofs.YtedeobikfddmgaaGreat
namespace Go.Proofs.YtedeobikfddmgaaGreat
open Go Go.RowKit Go.ChangeShapes Go.WideShapes Go.ChangeAt
open Sha
open Wd
theorem zhV:Tryz.prog.cellsOf 3=1:=by kernel_rfl
theorem zwO:Tryz.prog.cellsOf 36=1:=by kernel_rfl
theorem zrS:Tryz.prog.cellsOf 25=1:=by kernel_rfl
theorem zhM:Tryz.prog.cellsOf 27=4:=by kernel_rfl
theorem zjQ:Tryz.prog.cellsOf 24=20:=by kernel_rfl
theorem zwQ:Tryz.prog.cellsOf tYr=5:=by kernel_rfl
theorem zwP:Tryz.prog.cellsOf 28=1:=by kernel_rfl
theorem zwR:Tryz.prog.cellsOf tYs=1:=by kernel_rfl
theorem zwM:Tryz.prog.cellsOf 22=1:=by kernel_rfl
theorem zwN:Tryz.prog.cellsOf 30=48:=by kernel_rfl
theorem zoE:Tryz.prog.cellsOf 33=50:=by kernel_rfl
theorem zwH:Tryz.prog.bytesOf 27=32:=by kernel_rfl
theorem zwI:Tryz.prog.bytesOf tYr=40:=by kernel_rfl
def iOfL:Value->Int
 |.int _ n=>n
 |_=>0
theorem zgW {α β:Type} {f:α->Option β}:∀ (L:List α) (ys:List β),L.mapM f=some ys->∀ i ∈ L,∃ y,f i=some y
 |[],_,_,i,hi=>by cases hi
 |a :: L,ys,h,i,hi=>by
  rw[List.mapM_cons] at h
  simp only[bind,Option.bind_eq_some_iff,pure,Option.some.injEq] at h
  obtain⟨y,hy,zs,hz,_⟩:=h
  rcases List.mem_cons.1 hi with rfl|hi
  ·exact⟨y,hy⟩
  ·exact zgW L zs hz i hi
theorem zbS (cs:List Value) (k:Nat) (h:k<cs.length):(cs.drop k).take 1=[cs.getD k undef]:=by
 rw[List.drop_eq_getElem_cons h]
 simp only[List.take_succ_cons,List.take_zero,List.getD_eq_getElem?_getD,List.getElem?_eq_getElem h,Option.getD_some]
theorem zdF (cs:List Value) (a n:Nat):cs.drop a=(cs.drop a).take n++cs.drop (a+n):=by
 rw[<-List.drop_drop,List.take_append_drop]
def B64 (z:Int):Prop:=-9223372036854775808<=z/\z<=9223372036854775807
theorem ztR (xs:List Value) (hl:xs.length=4) (key:∀ i (h:i<xs.length),∃ z:Int,xs[i]=.int .u64 z/\0<=z/\z<=18446744073709551615):∃ n,n<2 ^ 256/\xs=vQ (dgs n 4):=by
 obtain⟨l,hll,hlt,hx⟩:∃ l:List Nat,l.length=4/\(∀ y ∈ l,y<18446744073709551616)/\xs=vQ l:=by
  refine⟨xs.map (fun v=>(intOf v).toNat),by simp [hl],fun y hy=>?_,?_⟩
  ·obtain⟨v,hv,rfl⟩:=List.mem_map.1 hy
   obtain⟨i,hi,rfl⟩:=List.mem_iff_getElem.1 hv
   obtain⟨z,hz,z0,z1⟩:=key i hi
   rw[hz]
   simp only[intOf]
   omega
  ·unfold vQ
   rw[List.map_map]
   refine List.ext_getElem (by simp) fun i h1 h2=>?_
   obtain⟨z,hz,z0,z1⟩:=key i h1
   rw[List.getElem_map,hz]
   simp only[Function.comp_apply,intOf]
   congr 1
   omega
 refine⟨num l,?_,?_⟩
 ·have:=num_lt l hlt
  rw[hll] at this
  simpa using this
 ·have:=zeC l hlt
  rw[hll] at this
  rw[this]
  exact hx
theorem zyA {α:Type} (f:α->List Value) (sz:Nat) (hf:∀ a,(f a).length=sz) (els:List α) (i:Nat) (x:α) (h:els[i]?=some x) (j:Nat) (hj:j<sz):(els.flatMap f)[i*sz+j]?=(f x)[j]?:=by
 induction els generalizing i with
 |nil=>cases h
 |cons y r ih=>
  rw[List.flatMap_cons]
  cases i with
  |zero=>
   obtain rfl:y=x:=by simpa using h
   rw[List.getElem?_append_left (by rw[hf];omega),Nat.zero_mul,Nat.zero_add]
  |succ k=>
   have e:(k+1)*sz+j=sz+(k*sz+j):=by rw[Nat.add_mul,Nat.one_mul];omega
   rw[List.getElem?_append_right (by rw[hf,e];omega),hf,e,Nat.add_sub_cancel_left]
   exact ih k (by simpa using h)
theorem zoJ {α:Type} (f:α->List Value) (sz:Nat) (hf:∀ a,(f a).length=sz) (els:List α):(els.flatMap f).length=els.length*sz:=by
 induction els with
 |nil=>simp
 |cons y r ih=>rw[List.flatMap_cons,List.length_append,hf,ih,List.length_cons,Nat.add_mul,Nat.one_mul,Nat.add_comm]
section
variable {H:Type} {enc:TypeId × Value->H} {W:World} {base:Nat} {held:Bool} {n:Nat}
theorem ztD {v:Value} {y:DataW H × List MemPlace} (g:DataW.trod enc Tryz.prog W base (fun _=>true) held n 3 [v]=some y):∃ z,v=.int .i64 z/\B64 z:=by
 obtain⟨z,e,_,wz⟩:=DataW.trod_int Tryz.underlying3 g
 simp only[List.cons.injEq,and_true] at e
 exact⟨z,e,bounds_i64 wz⟩
theorem erL_f {v:Value} {y:DataW H × List MemPlace} (g:DataW.trod enc Tryz.prog W base (fun _=>true) held n 36 [v]=some y):∃ z,v=.int .i64 z/\B64 z:=by
 obtain⟨z,e,_,wz⟩:=DataW.trod_int Tryz.underlying36 g
 simp only[List.cons.injEq,and_true] at e
 exact⟨z,e,bounds_i64 wz⟩
theorem adL_f {cs:List Value} {y:DataW H × List MemPlace} (g:DataW.trod enc Tryz.prog W base (fun _=>true) held n 24 cs=some y):∃ l:List (BitVec 8),l.length=20/\cs=vB l:=by
 cases n with
 |zero=>simp [DataW.trod] at g
 |succ m=>
  rw[DataW.trod_step] at g
  unfold DataW.trodStep at g
  simp only[Tryz.underlying24] at g
  split at g
  ·rename_i h2
   rw[zjQ] at h2
   simp only[Option.map_eq_some_iff] at g
   obtain⟨ys,hy,_⟩:=g
   have each:=zgW _ _ hy
   have key:∀ i (h:i<cs.length),∃ z,cs[i]=.int .u8 z/\0<=z/\z<=255:=fun i h=>by
    obtain⟨y,hy⟩:=each i (List.mem_range.2 (by omega))
    rw[zrT,Nat.mul_one] at hy
    obtain⟨z,hz,_,wz⟩:=DataW.trod_int Tryz.underlying5 hy
    have hb:=bounds_u8 wz
    refine⟨z,?_,hb.1,hb.2⟩
    rw[List.drop_eq_getElem_cons h] at hz
    simp only[List.take_succ_cons,List.take_zero,List.cons.injEq,and_true] at hz
    exact hz
   refine⟨cs.map (fun v=>BitVec.ofInt 8 (iOfL v)),by simp;omega,?_⟩
   unfold vB
   rw[List.map_map]
   refine (List.ext_getElem (by simp) fun i h1 h2=>?_)
   obtain⟨z,hz,hz0,hz1⟩:=key i h1
   rw[List.getElem_map,hz]
   simp only[Function.comp_apply,iOfL]
   unfold c
   rw[BitVec.toNat_ofInt]
   congr 1
   omega
  ·cases g
theorem wd_f {cs:List Value} {y:DataW H × List MemPlace} (g:DataW.trod enc Tryz.prog W base (fun _=>true) held n 27 cs=some y):∃ m,m<2 ^ 256/\cs=wq m:=by
 cases n with
 |zero=>simp [DataW.trod] at g
 |succ m=>
  rw[DataW.trod_step] at g
  unfold DataW.trodStep at g
  simp only[Tryz.underlying27] at g
  split at g
  ·rename_i h2
   rw[zhM] at h2
   simp only[Option.map_eq_some_iff] at g
   obtain⟨ys,hy,_⟩:=g
   have each:=zgW _ _ hy
   have key:∀ i (h:i<cs.length),∃ z:Int,cs[i]=.int .u64 z/\0<=z/\z<=18446744073709551615:=fun i h=>by
    obtain⟨y,hy⟩:=each i (List.mem_range.2 (by omega))
    rw[zrS,Nat.mul_one] at hy
    obtain⟨z,hz,_,wz⟩:=DataW.trod_int Tryz.underlying25 hy
    have hb:=bounds_u64 wz
    refine⟨z,?_,hb.1,hb.2⟩
    rw[List.drop_eq_getElem_cons h] at hz
    simp only[List.take_succ_cons,List.take_zero,List.cons.injEq,and_true] at hz
    exact hz
   exact ztR cs h2 key
  ·cases g
theorem reply_f {cs:List Value} (hcl:cs.length=5) {y:DataW H × List MemPlace} (g:DataW.trod enc Tryz.prog W base (fun _=>true) held n tYr cs=some y):∃ p:Nat × Int,p.1<2 ^ 256/\cs=ry p:=by
 obtain⟨xs,k,hk,hxy,_,hxl,hff⟩:=DataW.trod_struct Tryz.underlying64 g
 change ∀ (i:Nat) (f:Field),_->DataW.trod enc Tryz.prog W base (fun _=>true) held k f.type ((cs.drop f.offset).take (Tryz.prog.cellsOf f.type))=xs[i]? at hff
 obtain⟨y0,y1,rfl⟩:∃ y0 y1,xs=[y0,y1]:=by
  match xs,hxl with
  |[y0,y1],_=>exact⟨y0,y1,rfl⟩
 have g0:=hff 0 _ rfl
 change DataW.trod enc Tryz.prog W base (fun _=>true) held k 27 ((cs.drop 0).take (Tryz.prog.cellsOf 27))=some y0 at g0
 rw[zhM] at g0
 obtain⟨m0,l0,e0⟩:=wd_f g0
 have g1:=hff 1 _ rfl
 change DataW.trod enc Tryz.prog W base (fun _=>true) held k 36 ((cs.drop 4).take (Tryz.prog.cellsOf 36))=some y1 at g1
 rw[zwO,zbS cs 4 (by omega)] at g1
 obtain⟨z1,e1,_⟩:=erL_f g1
 refine⟨(m0,z1),l0,?_⟩
 have h0:=zdF cs 0 4
 rw[e0,List.drop_zero] at h0
 rw[h0,zdF cs 4 1,zbS cs 4 (by omega),e1,List.drop_eq_nil_of_le (by omega:cs.length<=4+1)]
 rfl
theorem list_f {α:Type} (tt te:TypeId) (sz bt:Nat) (hu:Tryz.prog.underlying tt=some (.slice te)) (hce:Tryz.prog.cellsOf te=sz) (hbe:Tryz.prog.bytesOf te=bt) (hsz:0<sz) (f:α->List Value) (dflt:α) (hf:∀ a,(f a).length=sz) (Ok:α->Prop) (elem:∀ (k:Nat) (cs:List Value) (y:DataW H × List MemPlace),cs.length=sz->DataW.trod enc Tryz.prog W base (fun _=>true) held k te cs=some y->∃ a,Ok a/\cs=f a) {v:Value} {y:DataW H × List MemPlace} (g:DataW.trod enc Tryz.prog W base (fun _=>true) held n tt [v]=some y) :
 ∃ (els:List α) (A:Option Addr) (cap:Nat),v=.slice A els.length cap/\(∀ a ∈ els,Ok a)/\Sin W sz A els.length cap (els.flatMap f)/\((∀ m ∈ y.1.weights Tryz.prog tt,m<=reachBytes)->els.length*bt<=reachBytes):=by
 rcases Deep.open_slice hu g with ⟨hcs,_⟩|⟨ad,l,c',m,k,D,Pl,hcs,_,hl,hm,hmm,hx,hr⟩
 ·simp only[List.cons.injEq,and_true] at hcs
  exact⟨[],none,0,hcs,(fun a ha=>by cases ha),.inl ⟨rfl,rfl,fun _=>rfl⟩,fun _=>by simp⟩
 ·simp only[List.cons.injEq,and_true] at hcs
  simp only[if_true] at hmm
  subst hmm
  have each:∀ i,i<l->∃ a,Ok a/\∀ q u,(f a)[q]?=some u->W.cell? (ad.add (i*sz+q))=some u:=by
   intro i hi
   obtain⟨cs',h1,h2⟩:=hr i (by omega)
   rw[hce] at h1
   obtain⟨_,hlen,hcell⟩:=World.cells?_some h1
   obtain⟨a,hok,e⟩:=elem _ _ _ (by simpa using hlen) h2
   refine⟨a,hok,fun q u hq=>?_⟩
   have hq5:q<sz:=by have:=(List.getElem?_eq_some_iff.1 hq).1;rwa [hf] at this
   have e2:=hcell q hq5
   rw[Deep.add_add] at e2
   rw[e2,e];exact hq
  obtain⟨ff,hff⟩:∃ ff:Nat->α,∀ i,i<l->Ok (ff i)/\∀ q u,(f (ff i))[q]?=some u->W.cell? (ad.add (i*sz+q))=some u:=by
   refine⟨fun i=>if h:i<l then (each i h).choose else dflt,fun i hi=>?_⟩
   simp only[hi,dif_pos]
   exact (each i hi).choose_spec
  refine⟨(List.range l).map ff,some ad,m,by simp [hcs],fun a ha=>?_,?_,fun hw=>?_⟩
  ·obtain⟨i,hi,rfl⟩:=List.mem_map.1 ha
   exact (hff i (List.mem_range.1 hi)).1
  ·by_cases hl0:l=0
   ·subst hl0
    exact .inl ⟨by simp,by simp,fun h=>by cases h⟩
   ·obtain⟨b,off,spot⟩:=ad
    have hne:(f (ff 0))[0]? ≠ none:=by rw[Ne,List.getElem?_eq_none_iff,hf];omega
    obtain⟨u0,hu0⟩:=Option.ne_none_iff_exists'.1 hne
    have h1:=(hff 0 (by omega)).2 0 u0 hu0
    have hspot:spot=none:=by simpa [Addr.add] using World.cell?_spot h1
    subst hspot
    refine .inr ⟨b,off,rfl,zoJ f sz hf _,fun j u hj=>?_⟩
    have hjl:j<l*sz:=by have:=(List.getElem?_eq_some_iff.1 hj).1;rwa [zoJ f sz hf,List.length_map,List.length_range] at this
    have hdm:=Nat.div_add_mod j sz
    have hml:=Nat.mod_lt j hsz
    have hil:j / sz<l:=Nat.div_lt_of_lt_mul (by rw[Nat.mul_comm];exact hjl)
    have hget:((List.range l).map ff)[j / sz]?=some (ff (j / sz)):=by rw[List.getElem?_map,List.getElem?_range hil];rfl
    have e:=zyA f sz hf _ (j / sz) _ hget (j % sz) hml
    have ej:j / sz*sz+j % sz=j:=by rw[Nat.mul_comm];exact hdm
    rw[ej] at e
    have:=(hff (j / sz) hil).2 (j % sz) u (by rw[<-e];exact hj)
    rw[ej,Addr.add_mid] at this
    exact this
  ·have:=hw ((((List.range l).map D).length+((List.range (m-l)).map fun j=>D (l+j)).length)*bt) (by
    rw[hx]
    simp only[DataW.weights,hu,hbe]
    exact List.mem_cons_self)
   simp only[List.length_map,List.length_range] at this ⊢
   exact Nat.le_trans (Nat.mul_le_mul_right _ (Nat.le_add_right _ _)) this
theorem wides_f {v:Value} {y:DataW H × List MemPlace} (g:DataW.trod enc Tryz.prog W base (fun _=>true) held n 28 [v]=some y):∃ (ags:List Nat) (A:Option Addr) (cap:Nat),v=.slice A ags.length cap/\(∀ a ∈ ags,a<2 ^ 256)/\Sin W 4 A ags.length cap (fw ags)/\((∀ m ∈ y.1.weights Tryz.prog 28,m<=reachBytes)->ags.length*32<=reachBytes):=
 list_f 28 27 4 32 Tryz.underlying28 zhM zwH (by decide) wq 0 zaV (fun a=>a<2 ^ 256) (fun k cs y _ h=>wd_f h) g
theorem ztZ {v:Value} {y:DataW H × List MemPlace} (g:DataW.trod enc Tryz.prog W base (fun _=>true) held n tYs [v]=some y):∃ (rs:List (Nat × Int)) (A:Option Addr) (cap:Nat),v=.slice A rs.length cap/\(∀ p ∈ rs,p.1<2 ^ 256)/\Sin W 5 A rs.length cap (frs rs)/\((∀ m ∈ y.1.weights Tryz.prog tYs,m<=reachBytes)->rs.length*40<=reachBytes):=
 list_f tYs tYr 5 40 Tryz.underlying31 zwQ zwI (by decide) ry (0,0) zdS (fun p=>p.1<2 ^ 256) (fun k cs y hl h=>reply_f hl h) g
theorem code_f {v:Value} {y:DataW H × List MemPlace} (g:DataW.trod enc Tryz.prog W base (fun _=>true) held n 22 [v]=some y):∃ (d:List (BitVec 8)) (A:Option Addr) (cap:Nat),v=.slice A d.length cap/\Sin W 1 A d.length cap (vB d)/\((∀ m ∈ y.1.weights Tryz.prog 22,m<=reachBytes)->d.length<=140737488351232):=by
 obtain⟨d,A,cap,h1,h2,h3,h4⟩:=bytes_f g
 refine⟨d,A,cap,h1,?_,h4⟩
 rcases h2 with ⟨h2,_⟩|⟨b,off,C,h5,h6,h7⟩
 ·exact .inl ⟨by rw[h2];rfl,by rw[h2];rfl,h3⟩
 ·simp only[Value.slice.injEq] at h5
  obtain⟨rfl,_,rfl⟩:=h5
  exact .inr ⟨b,off,rfl,by rw[zcV,Nat.mul_one],h7⟩
theorem call_f {cs:List Value} (hcl:cs.length=48) {y:DataW H × List MemPlace} (g:DataW.trod enc Tryz.prog W base (fun _=>true) held n 30 cs=some y):∃ (c:Ca) (ags:List Nat) (A:Option Addr) (cap:Nat),c.Wf/\cs=c.cs (.slice A ags.length cap)/\(∀ a ∈ ags,a<2 ^ 256)/\Sin W 4 A ags.length cap (fw ags)/\((∀ m ∈ y.1.weights Tryz.prog 30,m<=reachBytes)->ags.length*32<=reachBytes):=by
 obtain⟨xs,k,hk,hxy,_,hxl,hff⟩:=DataW.trod_struct Tryz.underlying30 g
 change ∀ (i:Nat) (f:Field),_->DataW.trod enc Tryz.prog W base (fun _=>true) held k f.type ((cs.drop f.offset).take (Tryz.prog.cellsOf f.type))=xs[i]? at hff
 obtain⟨y0,y1,y2,y3,y4,y5,y6,rfl⟩:∃ y0 y1 y2 y3 y4 y5 y6,xs=[y0,y1,y2,y3,y4,y5,y6]:=by
  match xs,hxl with
  |[y0,y1,y2,y3,y4,y5,y6],_=>exact⟨y0,y1,y2,y3,y4,y5,y6,rfl⟩
 have g0:=hff 0 _ rfl
 change DataW.trod enc Tryz.prog W base (fun _=>true) held k 24 ((cs.drop 0).take (Tryz.prog.cellsOf 24))=some y0 at g0
 rw[zjQ] at g0
 obtain⟨sf,l0,e0⟩:=adL_f g0
 have g1:=hff 1 _ rfl
 change DataW.trod enc Tryz.prog W base (fun _=>true) held k 24 ((cs.drop 20).take (Tryz.prog.cellsOf 24))=some y1 at g1
 rw[zjQ] at g1
 obtain⟨cr,l1,e1⟩:=adL_f g1
 have g2:=hff 2 _ rfl
 change DataW.trod enc Tryz.prog W base (fun _=>true) held k 3 ((cs.drop 40).take (Tryz.prog.cellsOf 3))=some y2 at g2
 rw[zhV,zbS cs 40 (by omega)] at g2
 obtain⟨tok,e2,b2⟩:=ztD g2
 have g3:=hff 3 _ rfl
 change DataW.trod enc Tryz.prog W base (fun _=>true) held k 27 ((cs.drop 41).take (Tryz.prog.cellsOf 27))=some y3 at g3
 rw[zhM] at g3
 obtain⟨amt,l3,e3⟩:=wd_f g3
 have g4:=hff 4 _ rfl
 change DataW.trod enc Tryz.prog W base (fun _=>true) held k 28 ((cs.drop 45).take (Tryz.prog.cellsOf 28))=some y4 at g4
 rw[zwP,zbS cs 45 (by omega)] at g4
 obtain⟨ags,A,cap,e4,l4,s4,w4⟩:=wides_f g4
 have g5:=hff 5 _ rfl
 change DataW.trod enc Tryz.prog W base (fun _=>true) held k 3 ((cs.drop 46).take (Tryz.prog.cellsOf 3))=some y5 at g5
 rw[zhV,zbS cs 46 (by omega)] at g5
 obtain⟨tm,e5,b5⟩:=ztD g5
 have g6:=hff 6 _ rfl
 change DataW.trod enc Tryz.prog W base (fun _=>true) held k 3 ((cs.drop 47).take (Tryz.prog.cellsOf 3))=some y6 at g6
 rw[zhV,zbS cs 47 (by omega)] at g6
 obtain⟨gas,e6,b6⟩:=ztD g6
 refine⟨⟨sf,cr,tok,amt,tm,gas⟩,ags,A,cap,⟨l0,l1,l3⟩,?_,l4,s4,fun hw=>w4 (fun m hm=>hw m ?_)⟩
 ·have h0:=zdF cs 0 20
  rw[e0,List.drop_zero] at h0
  rw[h0,zdF cs 20 20,e1,zdF cs 40 1,zbS cs 40 (by omega),e2,zdF cs 41 4,e3,zdF cs 45 1,zbS cs 45 (by omega),e4,zdF cs 46 1,zbS cs 46 (by omega),e5,zdF cs 47 1,zbS cs 47 (by omega),e6,List.drop_eq_nil_of_le (by omega:cs.length<=47+1)]
  rfl
 ·rw[hxy]
  simp only[List.map_cons,List.map_nil,DataW.weights,Tryz.underlying30,DataW.weightsEach,List.mem_append]
  exact .inr (.inr (.inr (.inr (.inl hm))))
theorem play_f {cs:List Value} (hcl:cs.length=50) {y:DataW H × List MemPlace} (g:DataW.trod enc Tryz.prog W base (fun _=>true) held n 33 cs=some y):∃ (pd:List (BitVec 8)) (Ak:Option Addr) (ck:Nat) (c:Ca) (ags:List Nat) (Aa:Option Addr) (ca:Nat) (rs:List (Nat × Int)) (Ar:Option Addr) (cr0:Nat),c.Wf/\cs=.slice Ak pd.length ck :: (c.cs (.slice Aa ags.length ca)++[.slice Ar rs.length cr0])/\(∀ a ∈ ags,a<2 ^ 256)/\(∀ p ∈ rs,p.1<2 ^ 256)/\Sin W 1 Ak pd.length ck (vB pd)/\Sin W 4 Aa ags.length ca (fw ags)/\Sin W 5 Ar rs.length cr0 (frs rs)/\((∀ m ∈ y.1.weights Tryz.prog 33,m<=reachBytes)->pd.length<=140737488351232/\ags.length*32<=reachBytes/\rs.length*40<=reachBytes):=by
 obtain⟨xs,k,hk,hxy,_,hxl,hff⟩:=DataW.trod_struct Tryz.underlying33 g
 change ∀ (i:Nat) (f:Field),_->DataW.trod enc Tryz.prog W base (fun _=>true) held k f.type ((cs.drop f.offset).take (Tryz.prog.cellsOf f.type))=xs[i]? at hff
 obtain⟨y0,y1,y2,rfl⟩:∃ y0 y1 y2,xs=[y0,y1,y2]:=by
  match xs,hxl with
  |[y0,y1,y2],_=>exact⟨y0,y1,y2,rfl⟩
 have g0:=hff 0 _ rfl
 change DataW.trod enc Tryz.prog W base (fun _=>true) held k 22 ((cs.drop 0).take (Tryz.prog.cellsOf 22))=some y0 at g0
 rw[zwM,zbS cs 0 (by omega)] at g0
 obtain⟨pd,Ak,ck,e0,s0,w0⟩:=code_f g0
 have g1:=hff 1 _ rfl
 change DataW.trod enc Tryz.prog W base (fun _=>true) held k 30 ((cs.drop 1).take (Tryz.prog.cellsOf 30))=some y1 at g1
 rw[zwN] at g1
 obtain⟨c,ags,Aa,ca,hc,e1,l1,s1,w1⟩:=call_f (by rw[List.length_take,List.length_drop];omega) g1
 have g2:=hff 2 _ rfl
 change DataW.trod enc Tryz.prog W base (fun _=>true) held k tYs ((cs.drop 49).take (Tryz.prog.cellsOf tYs))=some y2 at g2
 rw[zwR,zbS cs 49 (by omega)] at g2
 obtain⟨rs,Ar,cr0,e2,l2,s2,w2⟩:=ztZ g2
 refine⟨pd,Ak,ck,c,ags,Aa,ca,rs,Ar,cr0,hc,?_,l1,l2,s0,s1,s2,fun hw=>⟨w0 (fun m hm=>hw m ?_),w1 (fun m hm=>hw m ?_),w2 (fun m hm=>hw m ?_)⟩⟩
 ·have h0:=zdF cs 0 1
  rw[zbS cs 0 (by omega),e0,List.drop_zero] at h0
  rw[h0,zdF cs 1 48,e1,zdF cs 49 1,zbS cs 49 (by omega),e2,List.drop_eq_nil_of_le (by omega:cs.length<=49+1)]
  rfl
 ·rw[hxy]
  simp only[List.map_cons,List.map_nil,DataW.weights,Tryz.underlying33,DataW.weightsEach,List.mem_append]
  exact .inl hm
 ·rw[hxy]
  simp only[List.map_cons,List.map_nil,DataW.weights,Tryz.underlying33,DataW.weightsEach,List.mem_append]
  exact .inr (.inl hm)
 ·rw[hxy]
  simp only[List.map_cons,List.map_nil,DataW.weights,Tryz.underlying33,DataW.weightsEach,List.mem_append]
  exact .inr (.inr (.inl hm))
end
end Go.Proofs.YtedeobikfddmgaaGreat
