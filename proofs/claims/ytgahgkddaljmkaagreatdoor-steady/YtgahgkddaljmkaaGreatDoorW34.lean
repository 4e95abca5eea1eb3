/- Gc2 .. Gc5 -/
import Derived.Test.YtgahgkddaljmkaaGreatDoorW33
set_option maxRecDepth 100000
set_option maxHeartbeats 4000000
namespace Go.Proofs.YtgahgkddaljmkaaGreatDoor
open Tryz
namespace Ab
def zkL (h:List Nd) (a:Nat):Nat:=
 match h[a]? with
 |some nd=>sz nd
 |none=>1
def pos (h:List Nd) (base:Nat) (C:List Nat) (i:Nat):Nat:=base+((C.take i).map (zkL h)).sum
def phi (h:List Nd) (base:Nat) (C:List Nat) (a:Nat):Option Nat:=if a∈C then some (pos h base C (C.idxOf a)) else none
variable {h:List Nd}
variable {base:Nat}
variable {C D:List Nat}
variable {i:Nat}
theorem zjB(hi:i<=C.length):pos h base (C++D) i=pos h base C i:=by
 unfold pos;rw[List.take_append_of_le_length hi]
variable {c:Nat}
theorem ziS(hc:C[i]?=some c):pos h base C (i+1)=pos h base C i+zkL h c:=by
 unfold pos;rw[zAn,hc];simp;omega
variable {j:Nat}
theorem zfC(ki:i<=j):pos h base C i<=pos h base C j:=by
 unfold pos;have h1:C.take i=(C.take j).take i:=by rw[zAq,zzV ki]
 have h2:((C.take j).map (zkL h)).sum=(((C.take j).take i).map (zkL h)).sum+(((C.take j).drop i).map (zkL h)).sum:=by rw[<-zz5,<-zz3,zAj]
 rw[<-h1]at h2;omega
theorem zii(hc:C[i]?=some c)(ki:i<j):pos h base C i+zkL h c<=pos h base C j:=by
 rw[<-ziS hc];exact zfC ki
variable {a p:Nat}
theorem ztP(hp:phi h base C a=some p):phi h base (C++D) a=some p:=by
 unfold phi at hp ⊢;split at hp
 ·next hm=>
  rw[if_pos (by simp[hm])];rw[List.idxOf_append,if_pos hm,zjB (zAk (zzF hm))];exact hp
 ·cases hp
variable {x:Int}
theorem Rf.app(hr:Rf (phi h base C) h x a):Rf (phi h base (C++D)) h x a:=by
 obtain ⟨p,hx,hp⟩:=hr;refine ⟨p,hx,?_⟩;rcases hp with hp|⟨b,hb,hp⟩
 ·exact .inl (ztP hp)
 ·exact .inr ⟨b,hb,ztP hp⟩
theorem RW.app{h:List Nd}{base:Nat}{C D:List Nat}{x:Int}{w:Wd}(hr:RW (phi h base C) h x w):RW (phi h base (C++D)) h x w:=by
 cases w with
 |ad a=>exact Rf.app hr
 |mk k b=>exact hr
variable {φ:Nat->Option Nat}
theorem At.congr{ws ws':List Int}{nd:Nd}(hw:∀ j,p<=j->j<p+sz nd->ws'[j]?=ws[j]?)(ha:At ws φ h p nd):At ws' φ h p nd:=by
 have hp:=zhd nd;rcases ha with ⟨b,p',h1,h2,h3⟩|⟨h1,h2,h3,h4⟩
 ·exact .inl ⟨b,p',h1,h2,by rw[hw p (zyN _) (by omega)];exact h3⟩
 ·refine .inr ⟨h1,by rw[hw p (zyN _) (by omega)];exact h2,fun v hv=>?_,fun i f hf=>?_⟩
  ·rw[hw (p+1) (by omega) (by subst hv;simp[sz])];exact h3 v hv
  ·have hl:=(zyL.1 hf).1;have hs:=zep nd;obtain ⟨x,hx,hr⟩:=h4 i f hf;exact ⟨x,by rw[hw (p+1+i) (by omega) (by omega)];exact hx,hr⟩
structure Old (h:List Nd) (φ:Nat->Option Nat) (cq fr0 half n:Nat):Prop where
 nod:∀ a p,φ a=some p->∃ nd,h[a]?=some nd/\cq<=p/\p+sz nd<=fr0
 dis:∀ a a' p p' nd nd',φ a=some p->φ a'=some p'->h[a]?=some nd->h[a']?=some nd'->a≠a'->p+sz nd<=p'\/p'+sz nd'<=p
 ok:∀ (a:Nat) (nd:Nd),h[a]?=some nd->zo6 nd
 fw:∀ (a b:Nat),h[a]?=some (.fwd b)->∃ nd,h[b]?=some nd/\zaV nd=false
 rm:fr0+n<=cq+half
 lf:cq<=fr0
structure GI (P:Nat->Prop) (h:List Nd) (φ:Nat->Option Nat) (st:List Wd) (cq au half t:Nat) (s:Sto) (C:List Nat) (bY fh:Nat):Prop where
 lw:s.low=au
 hf:s.half=half
 tp:s.top=t
 hv:(cq=0/\au=half)\/(cq=half/\au=0)
 len:2*half<=s.ws.length
 wl:s.ws.length<=1000000
 fr:s.free=pos h au C C.length
 tt:t+st.length=au+half
 nd:C.Nodup
 cm:∀ c∈C,∃ p n,φ c=some p/\h[c]?=some n/\zaV n=false
 old:∀ a p,φ a=some p->a ∉ C->∃ n,h[a]?=some n/\At s.ws φ h p n
 new:∀ (i c:Nat),C[i]?=some c->∃ p n,φ c=some p/\h[c]?=some n/\s.ws[p]?=some (Hd 5 (pos h au C i) 0)/\s.ws[pos h au C i]?=some (hdr n)/\∀ v,n=.num v->s.ws[pos h au C i+1]?=some v
 fld:∀ (i c:Nat) (n:Nd) (j f:Nat),C[i]?=some c->h[c]?=some n->(zdd n)[j]?=some f->∃ x,s.ws[pos h au C i+1+j]?=some x/\if pos h au C i+1+j<fh then Rf (phi h au C) h x f else Rf φ h x f
 stk:∀ (i:Nat) (w:Wd),st[i]?=some w->∃ x,s.ws[au+half-1-i]?=some x/\if au+half-1-i<bY then RW (phi h au C) h x w else RW φ h x w
 lm:fh<=s.free
 pc:∀ c∈C,P c
variable {n:Nd}
theorem zbB(hn:h[a]?=some n):zkL h a=sz n:=by unfold zkL;rw[hn]
variable {st:List Wd}
variable {s:Sto}
theorem GI.room{P:Nat->Prop}{cq fr0 au half t:Nat}{bY fh:Nat}(E:Old h φ cq fr0 half st.length)(G:GI P h φ st cq au half t s C bY fh)(hD:D.Nodup)(hm:∀ c∈D,∃ p n,φ c=some p/\h[c]?=some n/\zaV n=false):au+(D.map (zkL h)).sum<=t:=by
 have h1:=ztZ cq fr0 (D.map fun c=>((φ c).getD 0,zkL h c)) (fun x hx=>by
  obtain ⟨c,hc,rfl⟩:=zz1.1 hx;obtain ⟨p,n,e1,e2,_⟩:=hm c hc;obtain ⟨n',e3,e4,e5⟩:=E.nod c p e1;rw[e2]at e3;cases e3;simp only[e1,zAs,zbB e2];exact ⟨e4,e5⟩) (by
  rw[List.pairwise_map];refine List.Pairwise.imp_of_mem (fun {a b} ha hb aH=>?_) hD;obtain ⟨p,n,e1,e2,_⟩:=hm a ha;obtain ⟨p',n',e3,e4,_⟩:=hm b hb;simp only[e1,e3,zAs,zbB e2,zbB e4];exact E.dis a b p p' n n' e1 e3 e2 e4 aH)
 rw[List.map_map]at h1;have h2:(Prod.snd ∘ fun c=>((φ c).getD 0,zkL h c))=zkL h:=rfl;rw[h2]at h1;have:=E.rm;have:=E.lf;have:=G.tt;rcases G.hv with ⟨a,b⟩|⟨a,b⟩ <;> omega
variable {b:Nat}
theorem zja{P:Nat->Prop}{cq fr0 au half t:Nat}{bY fh:Nat}(E:Old h φ cq fr0 half st.length)(G:GI P h φ st cq au half t s C bY fh){a0:Nat}(hb:φ b=some p)(hn:h[b]?=some n)(hf:zaV n=false)(hP:P b)(h0:s.ws[a0]?=some x)(cX:0<=x)(ee:x<9223372036854775808)(hq:(if x%16=4 then (x/65536).toNat else a0)=p):
  ∃ r s' D,s.zgR a0=some (r,s')/\GI P h φ st cq au half t s' (C++D) bY fh/\phi h au (C++D) b=some r/\s'.ws.length=s.ws.length:=by
 unfold Sto.zgR;rw[h0];simp only;rw[if_neg (by omega),hq];by_cases hm:b∈C
 ·obtain ⟨i,hi,GF⟩:=List.getElem_of_mem hm;have lg:C[C.idxOf b]?=some b:=by rw[zyM (zzF hm),List.getElem_idxOf]
  obtain ⟨p',n',e1,e2,e3,e4,e5⟩:=G.new _ b lg;rw[hb]at e1;cases e1;rw[e3];have hr:0<=Hd 5 (pos h au C (C.idxOf b)) 0/\Hd 5 (pos h au C (C.idxOf b)) 0<9223372036854775808:=by
   have h1:pos h au C (C.idxOf b)<=pos h au C C.length:=zfC (zAk (zzF hm));have h2:=G.room E G.nd G.cm;have h3:pos h au C C.length=au+(C.map (zkL h)).sum:=by unfold pos;rw[zz7]
   have h4:=G.tt;have h5:=G.wl;have h6:=G.len;unfold Hd;rcases G.hv with ⟨a,b⟩|⟨a,b⟩ <;> omega
  have EF:Hd 5 (pos h au C (C.idxOf b)) 0%16=5:=zbx (by omega);have dK:Hd 5 (pos h au C (C.idxOf b)) 0/65536=(pos h au C (C.idxOf b):Nat):=zdE (by omega) (by omega);simp only;rw[if_neg (by omega),if_pos EF,dK,zy2];refine ⟨pos h au C (C.idxOf b),s,[],rfl,by rw[zzS];exact G,?_,rfl⟩;rw[zzS];unfold phi;rw[if_pos hm]
 ·obtain ⟨n',e1,e2⟩:=G.old b p hb hm;rw[hn]at e1;cases e1;have bU:=E.ok b n hn;have aV:AtC s.ws (Rf φ h) p n:=by
   rcases e2 with ⟨b',p',h1,_⟩|⟨_,h2⟩
   ·rw[h1]at hf;simp[zaV]at hf
   ·exact h2
  obtain ⟨c1,c2,c3⟩:=aV;obtain ⟨r1,r2⟩:=zde bU;obtain ⟨k1,k2⟩:=zmn hf;have xl:=zlr bU hf;obtain ⟨n',e3,e4,e5⟩:=E.nod b p hb;rw[hn]at e3;cases e3;have lY:∀ c∈C++[b],∃ p n,φ c=some p/\h[c]?=some n/\zaV n=false:=by
   intro c hc;rcases zzi.1 hc with hc|hc
   ·exact G.cm c hc
   ·rw[zze.1 hc];exact ⟨p,n,hb,hn,hf⟩
  have eZ:(C++[b]).Nodup:=by
   rw[List.nodup_append];exact ⟨G.nd,by simp,fun x hx y hy=>by rw[zze.1 hy];exact fun e=>hm (e ▸ hx)⟩
  have ew:=G.room E eZ lY;have ak:s.free=au+(C.map (zkL h)).sum:=by rw[G.fr];unfold pos;rw[zz7]
  rw[zz3,zz5]at ew;simp only[zza,List.map_nil,zzd,List.sum_nil,zbB hn]at ew;have mi:=G.tt;have hlen:=G.len;have eE:=G.wl;have AL:=E.rm;have eB:1<=sz n:=zhd n;have sF:au<=s.free:=by omega
  have iY:s.free+sz n<=t:=by omega
  have An:p+sz n<=cq+half:=by omega
  have x6:p+sz n<=s.free\/au+half<=p:=by rcases G.hv with ⟨a,b⟩|⟨a,b⟩ <;> omega
  have GN:au+half<=s.ws.length:=by rcases G.hv with ⟨a,b⟩|⟨a,b⟩ <;> omega
  have Fk:cq+half<=s.ws.length:=by rcases G.hv with ⟨a,b⟩|⟨a,b⟩ <;> omega
  rw[c1];simp only;rw[if_neg (by omega),if_neg k2,if_pos ⟨by omega,by omega,by omega⟩];obtain ⟨ws',po⟩:∃ ws',ws'=(Go.splice (s.ws.set s.free (hdr n)) (s.free+1) ((s.ws.drop (p+1)).take (behind (hdr n)))).set p (Hd 5 s.free 0):=⟨_,rfl⟩;have aN:((s.ws.drop (p+1)).take (behind (hdr n))).length=behind (hdr n):=by rw[zzf,zzu];omega
  have aY:∀ j,ws'[j]?=if j=p then some (Hd 5 s.free 0) else if j=s.free then some (hdr n) else if s.free<j/\j<s.free+sz n then s.ws[p+(j-s.free)]? else s.ws[j]?:=by
   intro j;have aK:(Go.splice (s.ws.set s.free (hdr n)) (s.free+1) ((s.ws.drop (p+1)).take (behind (hdr n)))).length=s.ws.length:=by rw[zzM _ _ _ (by rw[zy6,aN];omega),zy6]
   rw[po,zyV,aK];by_cases hj:j=p
   ·subst hj;rw[if_pos rfl,if_pos (by omega),if_pos rfl]
   ·rw[if_neg (fun e=>hj e.symm),if_neg hj,zbu _ _ _ _ (by rw[zy6,aN];omega),aN];by_cases lh:j=s.free
    ·subst lh;rw[if_pos rfl,if_pos (by omega),zyV,if_pos rfl,if_pos (by omega)]
    ·have cS:(s.ws.set s.free (hdr n))[j]?=s.ws[j]?:=by rw[zyV,if_neg (fun e=>lh e.symm)]
     rw[if_neg lh];by_cases h3:s.free<j/\j<s.free+sz n
     ·rw[if_pos h3,if_neg (by omega),if_pos (by omega),zzy,if_pos (by omega),zzx];congr 1;omega
     ·rw[if_neg h3];by_cases h4:j<s.free+1
      ·rw[if_pos h4,cS]
      ·rw[if_neg h4,if_neg (by omega),cS]
  have gK:pos h au (C++[b]) C.length=s.free:=by rw[zjB (zyN _),G.fr]
  have ll:(C++[b])[C.length]?=some b:=by simp
  have E4:pos h au (C++[b]) (C.length+1)=s.free+sz n:=by rw[ziS ll,gK,zbB hn]
  have yh:ws'.length=s.ws.length:=by
   rw[po,zy6,zzM _ _ _ (by rw[zy6,aN];omega),zy6]
  have dC:∀ j,j≠p->(j<s.free\/s.free+sz n<=j)->ws'[j]?=s.ws[j]?:=by
   intro j h1 h2;rw[aY,if_neg h1,if_neg (by omega),if_neg (by omega)]
  have bp:∀ i c,C[i]?=some c->i<C.length/\pos h au C i+zkL h c<=s.free/\au<=pos h au C i/\pos h au (C++[b]) i=pos h au C i:=by
   intro i c hc;have br:=(zyL.1 hc).1;refine ⟨br,by rw[G.fr];exact zii hc br,by unfold pos;omega,zjB (zAk br)⟩
  have gU:∀ j,au<=j->j<au+half->j≠p:=by
   intro j h1 h2 e;rcases x6 with h3|h3
   ·rcases G.hv with ⟨a,b⟩|⟨a,b⟩ <;> omega
   ·omega
  have hget?:∀ (i c:Nat),(C++[b])[i]?=some c->(C[i]?=some c)\/(i=C.length/\c=b):=by
   intro i c hc;rw[zzj]at hc;split at hc
   ·exact .inl hc
   ·next nO=>
    have:=(zyL.1 hc).1;simp at this;have h1:i-C.length=0:=by omega
    rw[h1]at hc;simp at hc;exact .inr ⟨by omega,hc.symm⟩
  refine ⟨s.free,{ s with free:=s.free+1+behind (hdr n),ws:=ws' },[b],by rw[po],⟨G.lw,G.hf,G.tp,G.hv,by simp only;omega,by simp only;omega,?_,G.tt,eZ,lY,?_,?_,?_,?_,?_,?_⟩,?_,yh⟩
  ·simp only[zyT,zy0];rw[E4];omega
  ·intro a q hq ha;have gm:a ∉ C:=fun e=>ha (by simp[e])
   have D8:a≠b:=fun e=>ha (by simp[e])
   obtain ⟨na,g1,g2⟩:=G.old a q hq gm;refine ⟨na,g1,g2.congr (fun j j1 j2=>?_)⟩;obtain ⟨GS,g3,g4,g5⟩:=E.nod a q hq;rw[g1]at g3;cases g3;have hd:=E.dis a b q p na n hq hb g1 hn D8;refine dC j (by omega) ?_;rcases G.hv with ⟨a,b⟩|⟨a,b⟩ <;> omega
  ·intro i c hc;rcases hget? i c hc with hc|⟨rfl,rfl⟩
   ·obtain ⟨i1,i2,i3,i4⟩:=bp i c hc;obtain ⟨q,m,g1,g2,g3,g4,g5⟩:=G.new i c hc;rw[zbB g2]at i2;have uQ:=zhd m;rw[i4];obtain ⟨m',g6,g7,g8⟩:=E.nod c q g1;rw[g2]at g6;cases g6;have jl:c≠b:=fun e=>hm (e ▸ zy1 hc)
    have hd:=E.dis c b q p m n g1 hb g2 hn jl;refine ⟨q,m,g1,g2,?_,?_,fun v hv=>?_⟩
    ·rw[dC q (by omega) (by rcases G.hv with ⟨a,b⟩|⟨a,b⟩ <;> omega)];exact g3
    ·rw[dC _ (gU _ i3 (by omega)) (by omega)];exact g4
    ·have:sz m=2:=by rw[hv];rfl
     rw[dC _ (gU _ (by omega) (by omega)) (by omega)];exact g5 v hv
   ·rw[gK];refine ⟨p,n,hb,hn,?_,?_,fun v hv=>?_⟩
    ·rw[aY,if_pos rfl]
    ·rw[aY,if_neg (gU _ sF (by omega)),if_pos rfl]
    ·have aI:sz n=2:=by rw[hv];rfl
     rw[aY,if_neg (gU _ (by omega) (by omega)),if_neg (by omega),if_pos (by omega),show p+(s.free+1-s.free)=p+1 by omega];exact c2 v hv
  ·intro i c m j f hc fO hf';have gT:=(zyL.1 hf').1;have Fa:=zep m;rcases hget? i c hc with hc|⟨rfl,rfl⟩
   ·obtain ⟨i1,i2,i3,i4⟩:=bp i c hc;rw[zbB fO]at i2;rw[i4];obtain ⟨x,g1,g2⟩:=G.fld i c m j f hc fO hf';refine ⟨x,by rw[dC _ (gU _ (by omega) (by omega)) (by omega)];exact g1,?_⟩;split at g2
    ·next aj=>rw[if_pos aj];exact g2.app
    ·next aj=>rw[if_neg aj];exact g2
   ·rw[hn]at fO;cases fO;rw[gK];have GK:=G.lm;obtain ⟨x,g1,g2⟩:=c3 j f hf';refine ⟨x,?_,by rw[if_neg (by omega)];exact g2⟩;rw[aY,if_neg (gU _ (by omega) (by omega)),if_neg (by omega),if_pos (by omega),show p+(s.free+1+j-s.free)=p+1+j by omega];exact g1
  ·intro i w hw;have br:=(zyL.1 hw).1;obtain ⟨x,g1,g2⟩:=G.stk i w hw;refine ⟨x,by rw[dC _ (gU _ (by omega) (by omega)) (by omega)];exact g1,?_⟩;split at g2
   ·next aj=>rw[if_pos aj];exact g2.app
   ·next aj=>rw[if_neg aj];exact g2
  ·have:=G.lm;simp only;omega
  ·intro c hc;rcases zzi.1 hc with hc|hc
   ·exact G.pc c hc
   ·rw[zze.1 hc];exact hP
  ·unfold phi;rw[if_pos (by simp),List.idxOf_append,if_neg hm];simp[gK]
variable {P:Nat->Prop} {h:List Nd} {φ:Nat->Option Nat} {st:List Wd} {cq fr0 au half t:Nat} {s:Sto} {C:List Nat} {bY fh:Nat}
theorem zle(E:Old h φ cq fr0 half st.length)(G:GI P h φ st cq au half t s C bY fh)(hb:φ b=some p)(hn:h[b]?=some n)(hf:zaV n=false):∃ x,s.ws[p]?=some x/\0<=x/\x<9223372036854775808/\x%16≠4:=by
 by_cases hm:b∈C
 ·have lg:C[C.idxOf b]?=some b:=by rw[zyM (zzF hm),List.getElem_idxOf]
  obtain ⟨p',n',e1,e2,e3,_⟩:=G.new _ b lg;rw[hb]at e1;cases e1;have h1:pos h au C (C.idxOf b)<=pos h au C C.length:=zfC (zAk (zzF hm));have h2:=G.room E G.nd G.cm;have h3:pos h au C C.length=au+(C.map (zkL h)).sum:=by unfold pos;rw[zz7]
  have h4:=G.tt;have h5:=G.wl;have h6:=G.len;refine ⟨_,e3,?_,?_,?_⟩
  ·unfold Hd;omega
  ·unfold Hd;rcases G.hv with ⟨a,b⟩|⟨a,b⟩ <;> omega
  ·rw[zbx (by omega)];omega
 ·obtain ⟨n',e1,e2⟩:=G.old b p hb hm;rw[hn]at e1;cases e1;rcases e2 with ⟨b',p',h1,_⟩|⟨_,h2,_⟩
  ·rw[h1]at hf;simp[zaV]at hf
  ·obtain ⟨r1,r2⟩:=zde (E.ok b n hn);exact ⟨_,h2,r1,r2,(zmn hf).1⟩
theorem zdc(hn:h[a]?=some n)(hf:zaV n=false):can h a=a:=by
 unfold can;rw[hn];cases n <;> first|rfl|simp[zaV]at hf
theorem zgl(hn:h[a]?=some (.fwd b)):can h a=b:=by
 unfold can;rw[hn]
theorem zmc(E:Old h φ cq fr0 half st.length)(G:GI P h φ st cq au half t s C bY fh)(hr:Rf φ h x a)(hP:P (can h a)):
  0<=x/\∃ r s' D,s.zgR x.toNat=some (r,s')/\GI P h φ st cq au half t s' (C++D) bY fh/\Rf (phi h au (C++D)) h (r:Int) a/\s'.ws.length=s.ws.length:=by
 obtain ⟨p,rfl,hp⟩:=hr;refine ⟨by omega,?_⟩;rw[zy2];rcases hp with hp|⟨b,hb,hp⟩
 ·obtain ⟨n,hn,_,_⟩:=E.nod a p hp;cases gr:zaV n with
  |false=>
   rw[zdc hn gr]at hP;obtain ⟨x,x1,x2,x3,x4⟩:=zle E G hp hn gr;obtain ⟨r,s',D,c1,c2,c3,c4⟩:=zja E G hp hn gr hP x1 x2 x3 (by rw[if_neg x4]);exact ⟨r,s',D,c1,c2,⟨r,rfl,.inl c3⟩,c4⟩
  |true=>
   cases n with
   |fwd b=>
    rw[zgl hn]at hP;obtain ⟨nb,iJ,jZ⟩:=E.fw a b hn;have D9:a ∉ C:=fun hm=>by
     obtain ⟨_,n',_,e2,e3⟩:=G.cm a hm;rw[hn]at e2;cases e2;simp[zaV]at e3
    obtain ⟨n',e1,e2⟩:=G.old a p hp D9;rw[hn]at e1;cases e1;rcases e2 with ⟨b',p',h1,h2,h3⟩|⟨h1,_⟩
    ·cases h1;obtain ⟨_,_,sN,fB⟩:=E.nod b p' h2;have AL:=E.rm;have hlen:=G.len;have eE:=G.wl;have gK:p'<=1000000:=by rcases G.hv with ⟨a,b⟩|⟨a,b⟩ <;> omega
     have hk:Hd 4 p' 0%16=4:=zbx (by omega);have hw:Hd 4 p' 0/65536=(p':Int):=zdE (by omega) (by omega);obtain ⟨r,s',D,c1,c2,c3,c4⟩:=zja E G h2 iJ jZ hP h3 (by unfold Hd;omega) (by unfold Hd;omega) (by rw[if_pos hk,hw,zy2]);exact ⟨r,s',D,c1,c2,⟨r,rfl,.inr ⟨b,hn,c3⟩⟩,c4⟩
    ·simp[zaV]at h1
   |_=>simp[zaV]at gr
 ·obtain ⟨nb,iJ,jZ⟩:=E.fw a b hb;rw[zgl hb]at hP;obtain ⟨x,x1,x2,x3,x4⟩:=zle E G hp iJ jZ;obtain ⟨r,s',D,c1,c2,c3,c4⟩:=zja E G hp iJ jZ hP x1 x2 x3 (by rw[if_neg x4]);exact ⟨r,s',D,c1,c2,⟨r,rfl,.inr ⟨b,hb,c3⟩⟩,c4⟩
theorem GI.zeP(E:Old h φ cq fr0 half st.length)(G:GI P h φ st cq au half t s C bY fh):au<=s.free/\s.free<=t/\au+half<=s.ws.length:=by
 have h2:=G.room E G.nd G.cm;have h3:pos h au C C.length=au+(C.map (zkL h)).sum:=by unfold pos;rw[zz7]
 have:=G.fr;have:=G.len;refine ⟨by omega,by omega,?_⟩;rcases G.hv with ⟨a,b⟩|⟨a,b⟩ <;> omega
theorem GI.zlI(G:GI P h φ st cq au half t s C bY fh)(hc:C[i]?=some c)(hn:h[c]?=some n):au<=pos h au C i/\pos h au C i+sz n<=s.free:=by
 refine ⟨by unfold pos;omega,?_⟩;rw[<-zbB hn,G.fr];exact zii hc (zyL.1 hc).1
theorem GI.zqJ(E:Old h φ cq fr0 half st.length)(G:GI P h φ st cq au half t s C bY fh)(hp:φ a=some p)(hn:h[a]?=some n):∀ j,p<=j->j<p+sz n->¬ (au<=j/\j<au+half):=by
 intro j j1 j2 j3;obtain ⟨n',e1,e2,e3⟩:=E.nod a p hp;rw[hn]at e1;cases e1;have:=E.rm;rcases G.hv with ⟨a,b⟩|⟨a,b⟩ <;> omega
theorem GI.setS(E:Old h φ cq fr0 half st.length){o:Nat}{w:Wd}{r:Int}(G:GI P h φ st cq au half t s C o fh)(hw:st[i]?=some w)(ho:o=au+half-1-i)(hr:RW (phi h au C) h r w):GI P h φ st cq au half t { s with ws:=s.ws.set o r } C (o+1) fh:=by
 obtain ⟨f1,f2,f3⟩:=G.zeP E;have br:=(zyL.1 hw).1;have mi:=G.tt;have AL:=E.rm;have bS:∀ j,j≠o->(s.ws.set o r)[j]?=s.ws[j]?:=fun j hj=>by rw[zyV,if_neg (fun e=>hj e.symm)]
 refine ⟨G.lw,G.hf,G.tp,G.hv,by simp only[zy6];exact G.len,by simp only[zy6];exact G.wl,G.fr,G.tt,G.nd,G.cm,?_,?_,?_,?_,G.lm,G.pc⟩
 ·intro a p hp ha;obtain ⟨n,e1,e2⟩:=G.old a p hp ha;refine ⟨n,e1,e2.congr (fun j j1 j2=>bS j (fun e=>?_))⟩;exact G.zqJ E hp e1 j j1 j2 (by omega)
 ·intro k c hc;obtain ⟨p,n,e1,e2,e3,e4,e5⟩:=G.new k c hc;obtain ⟨p1,p2⟩:=G.zlI hc e2;have hs:=zhd n;refine ⟨p,n,e1,e2,?_,?_,fun v hv=>?_⟩
  ·rw[bS p (fun e=>G.zqJ E e1 e2 p (zyN _) (by omega) (by omega))];exact e3
  ·rw[bS _ (by omega)];exact e4
  ·have:sz n=2:=by rw[hv];rfl
   rw[bS _ (by omega)];exact e5 v hv
 ·intro k c n j f hc hn hf;obtain ⟨p1,p2⟩:=G.zlI hc hn;have gT:=(zyL.1 hf).1;have hs:=zep n;obtain ⟨x,g1,g2⟩:=G.fld k c n j f hc hn hf;exact ⟨x,by rw[bS _ (by omega)];exact g1,g2⟩
 ·intro k w' fY;have nS:=(zyL.1 fY).1;obtain ⟨x,g1,g2⟩:=G.stk k w' fY;by_cases hk:k=i
  ·subst hk;rw[hw]at fY;cases fY;refine ⟨r,?_,by rw[if_pos (by omega)];exact hr⟩;rw[<-ho];simp only;rw[zyV,if_pos rfl,if_pos (by omega)]
  ·refine ⟨x,by simp only;rw[bS _ (by omega)];exact g1,?_⟩;by_cases aj:au+half-1-k<o
   ·rw[if_pos aj]at g2;rw[if_pos (by omega)];exact g2
   ·rw[if_neg aj]at g2;rw[if_neg (by omega)];exact g2
theorem zqR{α:Type}{l:List α}{x:α}(hx:l[i]?=some x):l.set i x=l:=by
 apply List.ext_getElem?;intro j;rw[zyV];split
 ·next e=>
  subst e;rw[if_pos (zyL.1 hx).1,hx]
 ·rfl
theorem zgk(E:Old h φ cq fr0 half st.length)(hP:∀ (i a:Nat),st[i]?=some (.ad a)->P (can h a)):∀ (k o:Nat) (s:Sto) (C:List Nat),GI P h φ st cq au half t s C o fh->o+k=au+half->t<=o->∃ s' D,s.zfI o k=some s'/\GI P h φ st cq au half t s' (C++D) (au+half) fh
 |0,o,s,C,G,ho,_=>⟨s,[],rfl,by rw[zzS,<-ho];exact G⟩
 |k+1,o,s,C,G,ho,hto=>by
  have mi:=G.tt;obtain ⟨w,hw⟩:∃ w,st[au+half-1-o]?=some w:=⟨_,zyM (by omega)⟩;obtain ⟨x,g1,g2⟩:=G.stk _ w hw;have AB:au+half-1-(au+half-1-o)=o:=by omega
  rw[AB,if_neg (by omega)]at g2;rw[AB]at g1;rw[Sto.zfI,g1];simp only;cases w with
  |mk m b=>
   have hx:x=Mk m b:=g2;have dV:x<0:=by rw[hx];unfold Mk;omega
   rw[if_pos dV];have G2:=G.setS E hw (by omega) (r:=x) hx;rw[zqR g1]at G2;exact zgk E hP k (o+1) s C G2 (by omega) (by omega)
  |ad a=>
   obtain ⟨cX,r,s1,D,c1,c2,c3,c4⟩:=zmc E G g2 (hP _ a hw);rw[if_neg (by omega),c1];simp only;have G2:=c2.setS E hw (by omega) (r:=r) c3;obtain ⟨s',D',d1,d2⟩:=zgk E hP k (o+1) _ (C++D) G2 (by omega) (by omega);exact ⟨s',D++D',d1,by rw[<-zzk];exact d2⟩
theorem znv(E:Old h φ cq fr0 half st.length):∀ (fc:List Int) (fns:List Nat) (s:Sto) (C:List Nat),GI P h φ st cq au half t s C bY fh->fc.length=fns.length->(∀ (i a:Nat),fns[i]?=some a->∃ x,fc[i]?=some x/\Rf φ h x a)->(∀ a∈fns,P (can h a)) ->
  ∃ kd s' D,s.zdP fc=some (kd,s')/\GI P h φ st cq au half t s' (C++D) bY fh/\kd.length=fns.length/\∀ (i a:Nat),fns[i]?=some a->∃ x,kd[i]?=some x/\Rf (phi h au (C++D)) h x a
 |[],fns,s,C,G,hl,_,_=>⟨[],s,[],rfl,by rw[zzS];exact G,hl,fun i a ha=>by
   have:fns=[]:=zzn.1 hl.symm;rw[this]at ha;simp at ha⟩
 |x::fc,[],s,C,G,hl,_,_=>by simp at hl
 |x::fc,a::fns,s,C,G,hl,hr,hP=>by
  obtain ⟨x',e1,e2⟩:=hr 0 a rfl;simp at e1;subst e1;obtain ⟨cX,r,s1,D,c1,c2,c3,c4⟩:=zmc E G e2 (hP a (by simp));rw[Sto.zdP,if_neg (by omega),c1];simp only;obtain ⟨kd,s',D',d1,d2,d3,d4⟩:=znv E fc fns s1 (C++D) c2 (by simpa using hl) (fun i b hb=>by
   obtain ⟨y,y1,y2⟩:=hr (i+1) b (by simpa using hb);exact ⟨y,by simpa using y1,y2⟩) (fun b hb=>hP b (by simp[hb]))
  rw[d1];refine ⟨(r:Int)::kd,s',D++D',rfl,by rw[<-zzk];exact d2,by simp[d3],fun i b hb=>?_⟩;rw[<-zzk];cases i with
  |zero=>
   simp at hb;subst hb;exact ⟨r,rfl,c3.app⟩
  |succ i=>
   obtain ⟨y,y1,y2⟩:=d4 i b (by simpa using hb);exact ⟨y,by simpa using y1,y2⟩
variable {P:Nat->Prop} {h:List Nd} {φ:Nat->Option Nat} {st:List Wd} {cq fr0 au half t:Nat} {s:Sto} {C:List Nat} {bY fh:Nat}
theorem GI.raise(G:GI P h φ st cq au half t s C bY fh){lim':Nat}(hle:fh<=lim')(hl:lim'<=s.free)(nT:∀ (i c:Nat) (n:Nd) (j f:Nat),C[i]?=some c->h[c]?=some n->(zdd n)[j]?=some f->pos h au C i+1+j<fh\/lim'<=pos h au C i+1+j):GI P h φ st cq au half t s C bY lim':=by
 refine ⟨G.lw,G.hf,G.tp,G.hv,G.len,G.wl,G.fr,G.tt,G.nd,G.cm,G.old,G.new,?_,G.stk,hl,G.pc⟩;intro i c n j f hc hn hf;obtain ⟨x,g1,g2⟩:=G.fld i c n j f hc hn hf;refine ⟨x,g1,?_⟩;have:=nT i c n j f hc hn hf;by_cases aj:pos h au C i+1+j<fh
 ·rw[if_pos aj]at g2;rw[if_pos (by omega)];exact g2
 ·rw[if_neg aj]at g2;rw[if_neg (by omega)];exact g2
theorem GI.setF(E:Old h φ cq fr0 half st.length){o f:Nat}{r:Int}(G:GI P h φ st cq au half t s C bY o)(hc:C[i]?=some c)(hn:h[c]?=some n)(hf:(zdd n)[j]?=some f)(ho:o=pos h au C i+1+j)(hr:Rf (phi h au C) h r f):GI P h φ st cq au half t { s with ws:=s.ws.set o r } C bY (o+1):=by
 obtain ⟨f1,f2,f3⟩:=G.zeP E;obtain ⟨q1,q2⟩:=G.zlI hc hn;have gT:=(zyL.1 hf).1;have fD:=zep n;have mi:=G.tt;have bS:∀ j,j≠o->(s.ws.set o r)[j]?=s.ws[j]?:=fun j hj=>by rw[zyV,if_neg (fun e=>hj e.symm)]
 have sw:∀ (i' c':Nat) (n':Nd),C[i']?=some c'->h[c']?=some n'->i'≠i->pos h au C i'+sz n'<=pos h au C i\/pos h au C i+sz n<=pos h au C i':=by
  intro i' c' n' eV gw aH;rcases Nat.lt_or_gt_of_ne aH with aj|aj
  ·left;rw[<-zbB gw];exact zii eV aj
  ·right;rw[<-zbB hn];exact zii hc aj
 refine ⟨G.lw,G.hf,G.tp,G.hv,by simp only[zy6];exact G.len,by simp only[zy6];exact G.wl,G.fr,G.tt,G.nd,G.cm,?_,?_,?_,?_,by simp only;omega,G.pc⟩
 ·intro a p hp ha;obtain ⟨m,e1,e2⟩:=G.old a p hp ha;refine ⟨m,e1,e2.congr (fun j j1 j2=>bS j (fun e=>?_))⟩;exact G.zqJ E hp e1 j j1 j2 (by omega)
 ·intro k c' eV;obtain ⟨p,m,e1,e2,e3,e4,e5⟩:=G.new k c' eV;obtain ⟨p1,p2⟩:=G.zlI eV e2;have hs:=zhd m;have aH:pos h au C k≠o/\(sz m=2->zdd m=[]->pos h au C k+1≠o):=by
   by_cases hk:k=i
   ·subst hk;rw[hc]at eV;cases eV;rw[hn]at e2;cases e2;refine ⟨by omega,fun _ h0=>?_⟩;rw[h0]at hf;simp at hf
   ·have:=sw k c' m eV e2 hk;exact ⟨by omega,fun _ _=>by omega⟩
  refine ⟨p,m,e1,e2,?_,?_,fun v hv=>?_⟩
  ·rw[bS p (fun e=>G.zqJ E e1 e2 p (zyN _) (by omega) (by omega))];exact e3
  ·rw[bS _ aH.1];exact e4
  ·rw[bS _ (aH.2 (by rw[hv];rfl) (by rw[hv];rfl))];exact e5 v hv
 ·intro k c' m j' f' eV hm hf';obtain ⟨x,g1,g2⟩:=G.fld k c' m j' f' eV hm hf';have EE:=(zyL.1 hf').1;have uQ:=zep m;by_cases n8:pos h au C k+1+j'=o
  ·have hk:k=i:=by
    by_cases hk:k=i
    ·exact hk
    ·have:=sw k c' m eV hm hk;omega
   subst hk;rw[hc]at eV;cases eV;rw[hn]at hm;cases hm;have hj:j'=j:=by omega
   subst hj;rw[hf]at hf';cases hf';refine ⟨r,?_,by rw[if_pos (by omega)];exact hr⟩;simp only;rw[n8,zyV,if_pos rfl,if_pos (by omega)]
  ·refine ⟨x,by simp only;rw[bS _ n8];exact g1,?_⟩;by_cases aj:pos h au C k+1+j' < o
   ·rw[if_pos aj]at g2;rw[if_pos (by omega)];exact g2
   ·rw[if_neg aj]at g2;rw[if_neg (by omega)];exact g2
 ·intro k w hw;have nS:=(zyL.1 hw).1;obtain ⟨x,g1,g2⟩:=G.stk k w hw;exact ⟨x,by simp only;rw[bS _ (by omega)];exact g1,g2⟩
theorem zld(E:Old h φ cq fr0 half st.length){i c:Nat}{n:Nd}(hn:h[c]?=some n)(hP:∀ f∈zdd n,P (can h f)):∀ (k j:Nat) (s:Sto) (C:List Nat),C[i]?=some c->GI P h φ st cq au half t s C bY (pos h au C i+1+j)->j+k=(zdd n).length ->
  ∃ s' D,s.zfI (pos h au C i+1+j) k=some s'/\GI P h φ st cq au half t s' (C++D) bY (pos h au C i+1+(zdd n).length)
 |0,j,s,C,hc,G,hj=>⟨s,[],rfl,by rw[zzS,<-hj];exact G⟩
 |k+1,j,s,C,hc,G,hj=>by
  obtain ⟨f,hf⟩:∃ f,(zdd n)[j]?=some f:=⟨_,zyM (by omega)⟩;obtain ⟨x,g1,g2⟩:=G.fld i c n j f hc hn hf;rw[if_neg (by omega)]at g2;obtain ⟨cX,r,s1,D,c1,c2,c3,c4⟩:=zmc E G g2 (hP f (zy1 hf));rw[Sto.zfI,g1];simp only;rw[if_neg (by omega),c1];simp only;have br:=(zyL.1 hc).1;have bp:pos h au (C++D) i=pos h au C i:=zjB (zAk br);have bT:(C++D)[i]?=some c:=by rw[zzc br];exact hc
  have G2:=c2.setF E bT hn hf (by rw[bp]) c3;have DV:GI P h φ st cq au half t { s1 with ws:=s1.ws.set (pos h au C i+1+j) r } (C++D) bY (pos h au (C++D) i+1+(j+1)):=by rw[bp];exact G2
  obtain ⟨s',D',d1,d2⟩:=zld E hn hP k (j+1) _ (C++D) bT DV (by omega);rw[bp]at d1 d2;exact ⟨s',D++D',d1,by rw[<-zzk];exact d2⟩
theorem zqQ(E:Old h φ cq fr0 half st.length)(hP:∀ (c:Nat) (n:Nd) (f:Nat),P c->h[c]?=some n->f∈zdd n->P (can h f)):∀ (fuel k:Nat) (s:Sto) (C:List Nat),GI P h φ st cq au half t s C bY (pos h au C k)->k<=C.length->t+1<=pos h au C k+fuel ->
  ∃ s' D,s.scan (pos h au C k) fuel=some s'/\GI P h φ st cq au half t s' (C++D) bY s'.free
 |0,k,s,C,G,hk,hf=>by
  have:=G.lm;have:=G.zeP E;omega
 |fuel+1,k,s,C,G,hk,hf=>by
  obtain ⟨f1,f2,f3⟩:=G.zeP E;rw[Sto.scan];by_cases aj:k<C.length
  ·obtain ⟨c,hc⟩:∃ c,C[k]?=some c:=⟨_,zyM aj⟩;obtain ⟨p,n,e1,e2,e3,e4,e5⟩:=G.new k c hc;obtain ⟨q1,q2⟩:=G.zlI hc e2;have hs:=zhd n;have Fa:=zep n;obtain ⟨_,n',_,e6,gr⟩:=G.cm c (zy1 hc);rw[e2]at e6;cases e6;have bU:=E.ok c n e2;obtain ⟨r1,r2⟩:=zde bU;have xr:=ztf bU gr;have xl:=zlr bU gr;have mi:=G.tt;rw[if_pos (by omega),e4];simp only;rw[xr,if_neg (by omega)];have nT:∀ (i c':Nat) (n':Nd) (j f:Nat),C[i]?=some c'->h[c']?=some n'->(zdd n')[j]?=some f->pos h au C i+1+j<pos h au C k\/pos h au C k+1+0<=pos h au C i+1+j:=by
    intro i c' n' j f eV gw hf';have gT:=(zyL.1 hf').1;have fD:=zep n';by_cases oZ:i<k
    ·left;have:=zii (h:=h) (base:=au) eV oZ;rw[zbB gw]at this;omega
    ·right;have:pos h au C k<=pos h au C i:=zfC (by omega);omega
   have G1:=G.raise (lim':=pos h au C k+1+0) (by omega) (by omega) nT;obtain ⟨s1,D,d1,d2⟩:=zld E e2 (fun f hf=>hP c n f (G.pc c (zy1 hc)) e2 hf) (zdd n).length 0 s C hc G1 (by omega);rw[zzO]at d1;rw[d1];simp only;have bp:pos h au (C++D) k=pos h au C k:=zjB hk;have bT:(C++D)[k]?=some c:=by rw[zzc aj];exact hc
   obtain ⟨p',n',g1,g2,g3,g4,g5⟩:=d2.new k c bT;rw[e2]at g2;cases g2;rw[bp]at g4;rw[g4];simp only;rw[if_neg (by omega)];have sK:pos h au C k+1+behind (hdr n)=pos h au (C++D) (k+1):=by
    rw[ziS bT,bp,zbB e2];omega
   rw[sK];have bZ:=d2.zeP E;have sQ:pos h au (C++D) (k+1)=pos h au C k+sz n:=by rw[ziS bT,bp,zbB e2]
   have hle:pos h au (C++D) (k+1)<=s1.free:=by rw[d2.fr];exact zfC (by simp;omega)
   have xQ:∀ (i c':Nat) (n':Nd) (j f:Nat),(C++D)[i]?=some c'->h[c']?=some n'->(zdd n')[j]?=some f->pos h au (C++D) i+1+j<pos h au C k+1+(zdd n).length\/pos h au (C++D) (k+1)<=pos h au (C++D) i+1+j:=by
    intro i c' n' j f eV gw hf';have gT:=(zyL.1 hf').1;have fD:=zep n';rcases Nat.lt_trichotomy i k with oZ|oZ|oZ
    ·left;have:=zii (h:=h) (base:=au) eV oZ;rw[zbB gw,bp]at this;omega
    ·left;subst oZ;rw[bT]at eV;cases eV;rw[e2]at gw;cases gw;rw[bp];omega
    ·right;have:pos h au (C++D) (k+1)<=pos h au (C++D) i:=zfC oZ;omega
   have G3:=d2.raise (lim':=pos h au (C++D) (k+1)) (by omega) hle xQ;obtain ⟨s',D',m1,m2⟩:=zqQ E hP fuel (k+1) s1 (C++D) G3 (by simp;omega) (by omega);exact ⟨s',D++D',m1,by rw[<-zzk];exact m2⟩
  ·have nS:k=C.length:=by omega
   have uP:pos h au C k=s.free:=by rw[nS,G.fr]
   rw[uP,if_neg (by omega)];refine ⟨s,[],rfl,?_⟩;rw[zzS];rw[uP]at G;exact G
inductive Reach (h:List Nd) (st:List Wd) (fns:List Nat):Nat->Prop where
 |stk {i a:Nat}:st[i]?=some (.ad a)->Reach h st fns (can h a)
 |fn {a:Nat}:a∈fns->Reach h st fns (can h a)
 |fld {c:Nat} {n:Nd} {f:Nat}:Reach h st fns c->h[c]?=some n->f∈zdd n->Reach h st fns (can h f)
variable {fc:List Int}
variable {fns:List Nat}
theorem zpj(R:Rel s fc h st fns φ):∃ kd s' C,s.collect fc=some (kd,s')/\Rel s' kd h st fns (phi h s'.low C)/\s'.half=s.half/\s'.ws.length=s.ws.length/\C.Nodup/\(∀ c∈C,Reach h st fns c)/\s'.free=s'.low+(C.map (zkL h)).sum/\∀ c∈C,∃ n,h[c]?=some n/\zaV n=false:=by
 have sF:=R.low;have hlen:=R.len;have eE:=R.wl;have uM:=R.lf;have iY:=R.ft;have fg:=R.tp;obtain ⟨au,xJ⟩:∃ au,au=s.half-s.low:=⟨_,rfl⟩;obtain ⟨t,ht⟩:∃ t,t=au+s.half-st.length:=⟨_,rfl⟩;have hn:s.low+s.half-s.top=st.length:=by omega
 have cu:t+st.length=au+s.half:=by omega
 have E:Old h φ s.low s.free s.half st.length:=⟨fun a p hp=>by
  obtain ⟨nd,a1,a2,a3,_⟩:=R.nod a p hp;exact ⟨nd,a1,a2,a3⟩,R.dis,R.ok,R.fw,by omega,uM⟩
 have hv:(s.low=0/\au=s.half)\/(s.low=s.half/\au=0):=by omega
 have Fb:s.zbR={ s with low:=au,free:=au,top:=t,ws:=Go.splice s.ws t ((s.ws.drop s.top).take st.length) }:=by
  unfold Sto.zbR;simp only[hn];rw[<-xJ,<-ht]
 have aN:((s.ws.drop s.top).take st.length).length=st.length:=by rw[zzf,zzu];omega
 have ng:t+st.length<=s.ws.length:=by omega
 have aK:(Go.splice s.ws t ((s.ws.drop s.top).take st.length)).length=s.ws.length:=zzM _ _ _ (by rw[aN];exact ng);have aY:∀ j,(Go.splice s.ws t ((s.ws.drop s.top).take st.length))[j]?=if t<=j/\j<au+s.half then s.ws[s.top+(j-t)]? else s.ws[j]?:=by
  intro j;rw[zbu _ _ _ _ (by rw[aN];exact ng),aN];by_cases h1:j<t
  ·rw[if_pos h1,if_neg (by omega)]
  ·rw[if_neg h1];by_cases h2:j<t+st.length
   ·rw[if_pos h2,if_pos (by omega),zzy,if_pos (by omega),zzx]
   ·rw[if_neg h2,if_neg (by omega)]
 have G0:GI (Reach h st fns) h φ st s.low au s.half t { s with low:=au,free:=au,top:=t,ws:=Go.splice s.ws t ((s.ws.drop s.top).take st.length) } [] t au:=by
  refine ⟨rfl,rfl,rfl,hv,by simp only;omega,by simp only;omega,by simp[pos],cu,by simp,by simp,?_,by simp,by simp,?_,zyN _,by simp⟩
  ·intro a p hp _;obtain ⟨nd,a1,a2,a3,a4⟩:=R.nod a p hp;refine ⟨nd,a1,a4.congr (fun j j1 j2=>?_)⟩;simp only;rw[aY,if_neg (by omega)]
  ·intro i w hw;have br:=(zyL.1 hw).1;obtain ⟨x,x1,x2⟩:=R.stk i w hw;refine ⟨x,?_,by rw[if_neg (by omega)];exact x2⟩;simp only;rw[aY,if_pos (by omega),show s.top+(au+s.half-1-i-t)=s.low+s.half-1-i by omega];exact x1
 have DX:∀ (i a:Nat),st[i]?=some (.ad a)->Reach h st fns (can h a):=fun i a ha=>.stk ha
 obtain ⟨s1,D1,b1,G1⟩:=zgk E DX st.length t _ [] G0 cu (zyN _);obtain ⟨kd,s2,D2,b2,G2,f1,f2⟩:=znv E fc fns s1 ([]++D1) G1 R.fl R.fn (fun a ha=>Reach.fn ha);have xU:pos h au ([]++D1++D2) 0=au:=by simp[pos]
 have Ft:=G2.len;obtain ⟨s3,D3,b3,G3⟩:=zqQ E (fun c n f hc hn hf=>Reach.fld hc hn hf) (s2.ws.length+1) 0 s2 ([]++D1++D2) (by rw[xU];exact G2) (zy5 _) (by rw[xU];have:=(G2.zeP E).2.2;omega);rw[xU]at b3;obtain ⟨C,hC⟩:∃ C,C=[]++D1++D2++D3:=⟨_,rfl⟩;rw[<-hC]at G3;have nM:s.collect fc=some (kd,s3):=by
  unfold Sto.collect;rw[if_pos ⟨by omega,hlen,by omega,by omega⟩,Fb];simp only;rw[show au+s.half-t=st.length by omega,b1];simp only;rw[b2];simp only;rw[G2.lw,b3]
 obtain ⟨q1,q2,q3⟩:=G3.zeP E;have o9:∀ a p,phi h au C a=some p->∃ i n,C[i]?=some a/\p=pos h au C i/\h[a]?=some n/\zaV n=false:=by
  intro a p hp;unfold phi at hp;split at hp
  ·next hm=>
   cases hp;have lg:C[C.idxOf a]?=some a:=by rw[zyM (zzF hm),List.getElem_idxOf]
   obtain ⟨_,n,_,e2,e3⟩:=G3.cm a hm;exact ⟨_,n,lg,rfl,e2,e3⟩
  ·cases hp
 refine ⟨kd,s3,C,nM,?_,G3.hf,zli nM,G3.nd,G3.pc,?_,fun c hc=>?_⟩
 ·rw[G3.lw];refine ⟨by rw[G3.lw,G3.hf];omega,by rw[G3.hf];exact G3.len,G3.wl,by rw[G3.lw];exact q1,by rw[G3.tp];exact q2,by rw[G3.tp,G3.lw,G3.hf];exact cu,?_,f1,?_,?_,?_,R.ok,R.fw⟩
  ·intro i w hw;have br:=(zyL.1 hw).1;obtain ⟨x,x1,x2⟩:=G3.stk i w hw;rw[if_pos (by omega)]at x2;exact ⟨x,by rw[G3.lw,G3.hf];exact x1,x2⟩
  ·intro i a ha;obtain ⟨x,x1,x2⟩:=f2 i a ha;exact ⟨x,x1,by rw[hC];exact x2.app⟩
  ·intro a p hp;obtain ⟨i,n,e1,e2,e3,e4⟩:=o9 a p hp;obtain ⟨p1,p2⟩:=G3.zlI e1 e3;obtain ⟨_,n',_,g2,_,g4,g5⟩:=G3.new i a e1;rw[e3]at g2;cases g2;refine ⟨n,e3,by rw[G3.lw,e2];exact p1,by rw[e2];exact p2,.inr ⟨e4,by rw[e2];exact g4,fun v hv=>by rw[e2];exact g5 v hv,fun j f hf=>?_⟩⟩;obtain ⟨x,x1,x2⟩:=G3.fld i a n j f e1 e3 hf;have gT:=(zyL.1 hf).1;have fD:=zep n;rw[if_pos (by omega)]at x2;exact ⟨x,by rw[e2];exact x1,x2⟩
  ·intro a a' p p' n n' hp lu hn gw aH;obtain ⟨i,m,e1,e2,e3,e4⟩:=o9 a p hp;obtain ⟨i',m',oJ,DG,Gg,Gh⟩:=o9 a' p' lu;have EB:i≠i':=fun e=>by
    subst e;rw[e1]at oJ;cases oJ;exact aH rfl
   rw[e2,DG];rcases Nat.lt_or_gt_of_ne EB with aj|aj
   ·left;rw[<-zbB hn];exact zii e1 aj
   ·right;rw[<-zbB gw];exact zii oJ aj
 ·rw[G3.lw,G3.fr];unfold pos;rw[zz7]
 ·obtain ⟨_,n,_,e2,e3⟩:=G3.cm c hc;exact ⟨n,e2,e3⟩
structure Ma where
 h:List Nd
 st:List Wd
 fns:List Nat
 fuel:Nat
 next:Int
 below:Int
def Fits (hf:Nat) (A:Ma) (k:Nat):Prop:=∀ C:List Nat,C.Nodup->(∀ c∈C,Reach A.h A.st A.fns c)->(C.map (zkL A.h)).sum+A.st.length+k<=hf
open Classical in
def val (sl:List Nat):Nd->Prop
 |.num _=>True
 |.data _ _=>True
 |.clo b fs=>∃ n,sl[b]?=some n/\fs.length<n
 |_=>False
theorem zxZ{sl:List Nat}(h:val sl n):zaV n=false:=by cases n <;> first|rfl|exact h.elim
structure MR (sl:List Nat) (hf:Nat) (m:MSt) (A:Ma) (φ:Nat->Option Nat):Prop where
 rel:Rel m.s m.fns A.h A.st A.fns φ
 half:m.s.half=hf
 fuel:m.o.fuel=A.fuel
 next:m.o.next=A.next
 below:m.o.below=A.below
 vi:∀ (a b:Nat),A.h[a]?=some (.fwd b)->∃ nd,A.h[b]?=some nd/\val sl nd
theorem ztX(R:Rel s fc h st fns φ)(hr:Rf φ h x a):∃ p n,φ (can h a)=some p/\h[can h a]?=some n/\zaV n=false:=by
 obtain ⟨p,rfl,hp⟩:=hr;rcases hp with hp|⟨b,hb,hp⟩
 ·obtain ⟨n,hn,_,_,aV⟩:=R.nod a p hp;rcases aV with ⟨b,p',rfl,h2,_⟩|⟨h1,_⟩
  ·rw[zgl hn];obtain ⟨nd,g1,g2⟩:=R.fw a b hn;exact ⟨p',nd,h2,g1,g2⟩
  ·rw[zdc hn h1];exact ⟨p,n,hp,hn,h1⟩
 ·rw[zgl hb];obtain ⟨nd,g1,g2⟩:=R.fw a b hb;exact ⟨p,nd,hp,g1,g2⟩
theorem zjG(R:Rel s fc h st fns φ)(hc:Reach h st fns c):∃ p n,φ c=some p/\h[c]?=some n/\zaV n=false:=by
 induction hc with
 |stk hi=>
  obtain ⟨x,_,hr⟩:=R.stk _ _ hi;exact ztX R hr
 |fn ha=>
  obtain ⟨i,hi⟩:=List.mem_iff_getElem?.1 ha;obtain ⟨x,_,hr⟩:=R.fn i _ hi;exact ztX R hr
 |fld _ hn hf ih=>
  obtain ⟨p,n',e1,e2,e3⟩:=ih;rw[hn]at e2;cases e2;obtain ⟨n',g1,_,_,aV⟩:=R.nod _ p e1;rw[hn]at g1;cases g1;obtain ⟨i,hi⟩:=List.mem_iff_getElem?.1 hf;rcases aV with ⟨b,p',h1,_⟩|⟨_,_,_,h4⟩
  ·rw[h1]at e3;simp[zaV]at e3
  ·obtain ⟨x,_,hr⟩:=h4 i _ hi;exact ztX R hr
theorem zlJ(R:Rel s fc h st fns φ)(hC:C.Nodup)(hr:∀ c∈C,Reach h st fns c):(C.map (zkL h)).sum<=s.free-s.low:=by
 have h1:=ztZ s.low s.free (C.map fun c=>((φ c).getD 0,zkL h c)) (fun x hx=>by
  obtain ⟨c,hc,rfl⟩:=zz1.1 hx;obtain ⟨p,n,e1,e2,_⟩:=zjG R (hr c hc);obtain ⟨n',e3,e4,e5,_⟩:=R.nod c p e1;rw[e2]at e3;cases e3;simp only[e1,zAs,zbB e2];exact ⟨e4,e5⟩) (by
  rw[List.pairwise_map];refine List.Pairwise.imp_of_mem (fun {a b} ha hb aH=>?_) hC;obtain ⟨p,n,e1,e2,_⟩:=zjG R (hr a ha);obtain ⟨p',n',e3,e4,_⟩:=zjG R (hr b hb);simp only[e1,e3,zAs,zbB e2,zbB e4];exact R.dis a b p p' n n' e1 e3 e2 e4 aH)
 rw[List.map_map]at h1;exact h1
theorem zvU{sl:List Nat}{hf k:Nat}{m:MSt}{A:Ma}(M:MR sl hf m A φ):
  (Fits hf A k/\∃ m' φ',m.zdI k=some (.ok m')/\MR sl hf m' A φ'/\m'.s.free+k<=m'.s.top/\m'.o=m.o)\/(¬ Fits hf A k/\m.zdI k=some (.error 4)):=by
 have uM:=M.rel.lf;have iY:=M.rel.ft;have fg:=M.rel.tp;have hh:=M.half;unfold MSt.zdI;by_cases hc:(k:Int)<=(m.s.top:Int)-(m.s.free:Int)
 ·rw[if_pos hc];left;refine ⟨fun C h1 h2=>?_,m,φ,rfl,M,by omega,rfl⟩;have:=zlJ M.rel h1 h2;omega
 ·rw[if_neg hc];obtain ⟨kd,s',C,c1,c2,c3,c4,c5,c6,c7,c8⟩:=zpj M.rel;rw[c1];simp only;have EP:=c2.lf;have Eu:=c2.ft;have Ff:=c2.tp;by_cases hd:(s'.top:Int)-(s'.free:Int)<(k:Int)
  ·rw[if_pos hd];right;refine ⟨fun aJ=>?_,rfl⟩;have:=aJ C c5 c6;omega
  ·rw[if_neg hd];left;refine ⟨fun C' h1 h2=>?_,_,phi A.h s'.low C,rfl,⟨c2,by simp only;omega,M.fuel,M.next,M.below,M.vi⟩,by simp only;omega,rfl⟩;have:=zlJ c2 h1 h2;omega
end Ab
end Go.Proofs.YtgahgkddaljmkaaGreatDoor
