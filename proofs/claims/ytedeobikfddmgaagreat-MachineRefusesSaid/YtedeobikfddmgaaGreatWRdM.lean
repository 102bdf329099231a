import Derived.Test.YtedeobikfddmgaaGreatWOM
set_option maxRecDepth 100000
set_option maxHeartbeats 16000000
namespace Go.Proofs.YtedeobikfddmgaaGreat
open Go
namespace Wd
def brw (a b t:Nat):Nat:=if a % 2 ^ t<b % 2 ^ t then 1 else 0
end Wd
namespace Wd
def by8 (m t:Nat):Nat:=m / 2 ^ (8*t) % 256
theorem zoC (m t:Nat):by8 m t<256:=Nat.mod_lt _ (by decide)
theorem zoU (m t:Nat):m % 2 ^ (8*(t+1))=m % 2 ^ (8*t)+by8 m t*2 ^ (8*t):=by
 unfold by8
 rw[show 8*(t+1)=8*t+8 by omega,Nat.pow_add,Nat.mod_mul,show (2:Nat) ^ 8=256 from rfl,Nat.mul_comm (2 ^ (8*t))]
theorem zrP (a t:Nat):lim a (t / 8) / 2 ^ (t % 8*8) % 256=by8 a t:=by
 unfold lim by8
 have e:(18446744073709551616:Nat)=2 ^ (t % 8*8)*(256*2 ^ (56-t % 8*8)):=by
  rw[show (256:Nat)=2 ^ 8 from rfl,<-Nat.pow_add,<-Nat.pow_add,show t % 8*8+(8+(56-t % 8*8))=64 by omega]
 rw[e,Nat.mod_mul_right_div_self,Nat.mod_mul_right_mod,Nat.div_div_eq_div_mul,<-Nat.pow_add,show 64*(t / 8)+t % 8*8=8*t by omega]
theorem zyZ (m t:Nat) (h:t<32):lim (m % 2 ^ (8*t)) (t / 8)<2 ^ (t % 8*8)/\(dgs (m % 2 ^ (8*t)) 4).set (t / 8) (lim (m % 2 ^ (8*t)) (t / 8)+by8 m t*2 ^ (t % 8*8))=dgs (m % 2 ^ (8*(t+1))) 4/\by8 m t*2 ^ (t % 8*8)<18446744073709551616:=by
 have hq:t / 8<4:=by omega
 have ht:2 ^ (8*t)=18446744073709551616 ^ (t / 8)*2 ^ (t % 8*8):=by
  rw[<-znF,<-Nat.pow_add,show 64*(t / 8)+t % 8*8=8*t by omega]
 have hM:m % 2 ^ (8*t)<2 ^ (8*t):=Nat.mod_lt _ (Nat.two_pow_pos _)
 have hM4:m % 2 ^ (8*t)<18446744073709551616 ^ 4:=Nat.lt_of_lt_of_le hM (by
  rw[<-znF];exact Nat.pow_le_pow_right (by decide) (by omega))
 have hb:=zoC m t
 have hr2:2 ^ (t % 8*8)<=72057594037927936:=Nat.pow_le_pow_right (n:=2) (by decide) (show t % 8*8<=56 by omega)
 have hx:lim (m % 2 ^ (8*t)) (t / 8)<2 ^ (t % 8*8):=by
  rw[zeD]
  refine Nat.lt_of_le_of_lt (Nat.mod_le _ _) (Nat.div_lt_of_lt_mul ?_)
  rw[<-ht];exact hM
 have hd:by8 m t*2 ^ (t % 8*8)<=255*2 ^ (t % 8*8):=Nat.mul_le_mul_right _ (by omega)
 refine⟨hx,?_,by omega⟩
 have n1:=nset (dgs (m % 2 ^ (8*t)) 4) (t / 8) (lim (m % 2 ^ (8*t)) (t / 8)+by8 m t*2 ^ (t % 8*8)) (by rw[zaH];exact hq)
 rw[zbP _ _ _ hq,zdY _ _ hM4] at n1
 have hs:=zeC ((dgs (m % 2 ^ (8*t)) 4).set (t / 8) (lim (m % 2 ^ (8*t)) (t / 8)+by8 m t*2 ^ (t % 8*8))) (zfX _ _ _ (zfR _ _) (by omega))
 rw[List.length_set,zaH] at hs
 have e:(lim (m % 2 ^ (8*t)) (t / 8)+by8 m t*2 ^ (t % 8*8))*18446744073709551616 ^ (t / 8)=lim (m % 2 ^ (8*t)) (t / 8)*18446744073709551616 ^ (t / 8)+by8 m t*2 ^ (8*t):=by
  rw[ht];grind
 rw[e] at n1
 have hv:num ((dgs (m % 2 ^ (8*t)) 4).set (t / 8) (lim (m % 2 ^ (8*t)) (t / 8)+by8 m t*2 ^ (t % 8*8)))=m % 2 ^ (8*(t+1)):=by
  rw[zoU m t];omega
 rw[hv] at hs
 exact hs.symm
def rdv (f:Nat->Nat):Nat->Nat
 |0=>0
 |t+1=>rdv f t+f t*2 ^ (8*t)
theorem ztX (f:Nat->Nat) (hf:∀ i,f i<256):∀ t,rdv f t<2 ^ (8*t)
 |0=>by simp [rdv]
 |t+1=>by
  have h1:=ztX f hf t
  have h2:f t*2 ^ (8*t)<=255*2 ^ (8*t):=Nat.mul_le_mul_right _ (by have:=hf t;omega)
  rw[show 8*(t+1)=8*t+8 by omega,Nat.pow_add]
  show rdv f t+f t*2 ^ (8*t)<_
  omega
theorem znI (f:Nat->Nat) (hf:∀ i,f i<256) (t:Nat):∀ k,rdv f (t+k) % 2 ^ (8*t)=rdv f t
 |0=>Nat.mod_eq_of_lt (ztX f hf t)
 |k+1=>by
  have e:2 ^ (8*(t+k))=2 ^ (8*t)*2 ^ (8*k):=by rw[<-Nat.pow_add,show 8*t+8*k=8*(t+k) by omega]
  rw[show rdv f (t+(k+1))=rdv f (t+k)+f (t+k)*2 ^ (8*(t+k)) from rfl,e,show f (t+k)*(2 ^ (8*t)*2 ^ (8*k))=2 ^ (8*t)*(f (t+k)*2 ^ (8*k)) by grind,Nat.add_mul_mod_self_left]
  exact znI f hf t k
theorem rdv_by8 (f:Nat->Nat) (hf:∀ i,f i<256) (n t:Nat) (h:t<n):by8 (rdv f n) t=f t:=by
 obtain⟨k,rfl⟩:∃ k,n=(t+1)+k:=⟨n-(t+1),by omega⟩
 have h1:=zoU (rdv f (t+1+k)) t
 rw[znI f hf (t+1) k] at h1
 have h2:=znI f hf t (1+k)
 rw[<-Nat.add_assoc] at h2
 rw[h2,show rdv f (t+1)=rdv f t+f t*2 ^ (8*t) from rfl] at h1
 have hp:0<2 ^ (8*t):=Nat.two_pow_pos _
 exact (Nat.eq_of_mul_eq_mul_right hp (by omega)).symm
def rx (f:Nat->Nat) (k:Nat):List Nat:=((List.range k).map f).reverse
theorem zlS (f:Nat->Nat) (k:Nat):(rx f k).length=k:=by simp [rx]
theorem rx_succ (f:Nat->Nat) (k:Nat):rx f (k+1)=f k :: rx f k:=by simp [rx,List.range_succ]
theorem rx_fill (f:Nat->Nat) (k n:Nat) (h:k<n):(List.replicate (n-k) 0++rx f k).set (n-1-k) (f k)=List.replicate (n-(k+1)) 0++rx f (k+1):=by
 rw[rx_succ,show n-k=(n-(k+1))+1 by omega,List.replicate_succ',List.append_assoc,List.set_append_right _ _ (by simp;omega)]
 rw[show n-1-k-(List.replicate (n-(k+1)) 0).length=0 by simp;omega]
 rfl
theorem rx_getD (f:Nat->Nat) (n j:Nat) (h:j<n):(rx f n).getD j 0=f (n-1-j):=by
 unfold rx
 rw[List.getD_eq_getElem?_getD,List.getElem?_reverse (by simpa using h)]
 simp [show n-1-j<n by omega]
def bl (a:Nat):List Nat:=rx (by8 a) 32
theorem zgB (a:Nat):(bl a).length=32:=zlS _ _
theorem bl_lt (a:Nat):∀ x ∈ bl a,x<256:=by
 intro x hx
 unfold bl rx at hx
 rw[List.mem_reverse] at hx
 obtain⟨i,_,rfl⟩:=List.mem_map.1 hx
 exact zoC a i
def rdn (l:List Nat):Nat:=rdv (fun i=>l.getD (31-i) 0) 32
def rdR (l:List Nat):Nat:=if l.length=32 then rdn l else 0
def rdE (l:List Nat):Int:=if l.length=32 then 0 else 20
theorem zmO {l:List Nat} (hl:∀ x ∈ l,x<256) (i:Nat):l.getD i 0<256:=by
 rw[List.getD_eq_getElem?_getD]
 cases h:l[i]? with
 |none=>decide
 |some x=>exact hl x (List.mem_of_getElem? h)
theorem rdn_lt {l:List Nat} (hl:∀ x ∈ l,x<256):rdn l<2 ^ 256:=ztX _ (fun _=>zmO hl _) 32
theorem znH {l:List Nat} (hl:∀ x ∈ l,x<256) (t:Nat) (h:t<32):by8 (rdn l) t=l.getD (31-t) 0:=rdv_by8 _ (fun _=>zmO hl _) 32 t h
end Wd
end Go.Proofs.YtedeobikfddmgaaGreat
