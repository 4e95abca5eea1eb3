/- Gc2 .. Gc5 -/
import Derived.Test.YtgahgkddaljmkaaGreatDoorV33
import Derived.Test.YtgahgkddaljmkaaGreatDoorV1
set_option maxRecDepth 100000
set_option maxHeartbeats 4000000
namespace Go.Proofs.YtgahgkddaljmkaaGreatDoor
namespace Ab
def jbR (h:List Nd) (a:Nat):Nat:=
 match h[a]? with
 |some nd=>sz nd
 |none=>1
def pos (h:List Nd) (base:Nat) (C:List Nat) (i:Nat):Nat:=base+((C.take i).map (jbR h)).sum
def phi (h:List Nd) (base:Nat) (C:List Nat) (a:Nat):Option Nat:=if a∈C then some (pos h base C (C.idxOf a)) else none
variable {h:List Nd}
variable {base:Nat}
variable {C D:List Nat}
variable {i:Nat}
theorem jbI(hi:i<=C.length):pos h base (C++D) i=pos h base C i:=by
 unfold pos;rw[List.take_append_of_le_length hi]
variable {c:Nat}
theorem jbB(hc:C[i]?=some c):pos h base C (i+1)=pos h base C i+jbR h c:=by
 unfold pos;rw[zzh,hc];simp;omega
variable {j:Nat}
theorem jaT(hij:i<=j):pos h base C i<=pos h base C j:=by
 unfold pos;have h1:C.take i=(C.take j).take i:=by rw[zzk,zyO hij]
 have h2:((C.take j).map (jbR h)).sum=(((C.take j).take i).map (jbR h)).sum+(((C.take j).drop i).map (jbR h)).sum:=by rw[<-zy0,<-zy1,zzf]
 rw[<-h1]at h2;omega
theorem ja0(hc:C[i]?=some c)(hij:i<j):pos h base C i+jbR h c<=pos h base C j:=by
 rw[<-jbB hc];exact jaT hij
variable {a p:Nat}
theorem jdI(hp:phi h base C a=some p):phi h base (C++D) a=some p:=by
 unfold phi at hp ⊢;split at hp
 ·next hm=>
  rw[if_pos (by simp[hm])];rw[List.idxOf_append,if_pos hm,jbI (zze (zyB hm))];exact hp
 ·cases hp
variable {x:Int}
theorem Rf.app(hr:Rf (phi h base C) h x a):Rf (phi h base (C++D)) h x a:=by
 obtain ⟨p,hx,hp⟩:=hr;refine ⟨p,hx,?_⟩;rcases hp with hp|⟨b,hb,hp⟩
 ·exact .inl (jdI hp)
 ·exact .inr ⟨b,hb,jdI hp⟩
theorem RW.app{h:List Nd}{base:Nat}{C D:List Nat}{x:Int}{w:Wd}(hr:RW (phi h base C) h x w):RW (phi h base (C++D)) h x w:=by
 cases w with
 |ad a=>exact Rf.app hr
 |mk k b=>exact hr
variable {φ:Nat->Option Nat}
theorem At.congr{ws ws':List Int}{nd:Nd}(hw:∀ j,p<=j->j<p+sz nd->ws'[j]?=ws[j]?)(ha:At ws φ h p nd):At ws' φ h p nd:=by
 have hp:=ja7 nd;rcases ha with ⟨b,p',h1,h2,h3⟩|⟨h1,h2,h3,h4⟩
 ·exact .inl ⟨b,p',h1,h2,by rw[hw p (zxJ _) (by omega)];exact h3⟩
 ·refine .inr ⟨h1,by rw[hw p (zxJ _) (by omega)];exact h2,fun v hv=>?_,fun i f hf=>?_⟩
  ·rw[hw (p+1) (by omega) (by subst hv;simp[sz])];exact h3 v hv
  ·have hl:=(zxH.1 hf).1;have hs:=jaP nd;obtain ⟨x,hx,hr⟩:=h4 i f hf;exact ⟨x,by rw[hw (p+1+i) (by omega) (by omega)];exact hx,hr⟩
structure Old (h:List Nd) (φ:Nat->Option Nat) (lo0 fr0 half n:Nat):Prop where
 nod:∀ a p,φ a=some p->∃ nd,h[a]?=some nd/\lo0<=p/\p+sz nd<=fr0
 dis:∀ a a' p p' nd nd',φ a=some p->φ a'=some p'->h[a]?=some nd->h[a']?=some nd'->a≠a'->p+sz nd<=p'\/p'+sz nd'<=p
 ok:∀ (a:Nat) (nd:Nd),h[a]?=some nd->jcG nd
 fw:∀ (a b:Nat),h[a]?=some (.fwd b)->∃ nd,h[b]?=some nd/\zaU nd=false
 rm:fr0+n<=lo0+half
 lf:lo0<=fr0
structure GI (P:Nat->Prop) (h:List Nd) (φ:Nat->Option Nat) (st:List Wd) (lo0 lo1 half t:Nat) (s:Sto) (C:List Nat) (limS lim:Nat):Prop where
 lw:s.low=lo1
 hf:s.half=half
 tp:s.top=t
 hv:(lo0=0/\lo1=half)\/(lo0=half/\lo1=0)
 len:2*half<=s.ws.length
 wl:s.ws.length<=1000000
 fr:s.free=pos h lo1 C C.length
 tt:t+st.length=lo1+half
 nd:C.Nodup
 cm:∀ c∈C,∃ p n,φ c=some p/\h[c]?=some n/\zaU n=false
 old:∀ a p,φ a=some p->a ∉ C->∃ n,h[a]?=some n/\At s.ws φ h p n
 new:∀ (i c:Nat),C[i]?=some c->∃ p n,φ c=some p/\h[c]?=some n/\s.ws[p]?=some (Hd 5 (pos h lo1 C i) 0)/\s.ws[pos h lo1 C i]?=some (hdr n)/\∀ v,n=.num v->s.ws[pos h lo1 C i+1]?=some v
 fld:∀ (i c:Nat) (n:Nd) (j f:Nat),C[i]?=some c->h[c]?=some n->(zdm n)[j]?=some f->∃ x,s.ws[pos h lo1 C i+1+j]?=some x/\if pos h lo1 C i+1+j<lim then Rf (phi h lo1 C) h x f else Rf φ h x f
 stk:∀ (i:Nat) (w:Wd),st[i]?=some w->∃ x,s.ws[lo1+half-1-i]?=some x/\if lo1+half-1-i<limS then RW (phi h lo1 C) h x w else RW φ h x w
 lm:lim<=s.free
 pc:∀ c∈C,P c
variable {n:Nd}
theorem jaA(hn:h[a]?=some n):jbR h a=sz n:=by unfold jbR;rw[hn]
variable {st:List Wd}
variable {s:Sto}
theorem GI.room{P:Nat->Prop}{lo0 fr0 lo1 half t:Nat}{limS lim:Nat}(E:Old h φ lo0 fr0 half st.length)(G:GI P h φ st lo0 lo1 half t s C limS lim)(hD:D.Nodup)(hm:∀ c∈D,∃ p n,φ c=some p/\h[c]?=some n/\zaU n=false):lo1+(D.map (jbR h)).sum<=t:=by
 have h1:=jdC lo0 fr0 (D.map fun c=>((φ c).getD 0,jbR h c)) (fun x hx=>by
  obtain ⟨c,hc,rfl⟩:=zyW.1 hx;obtain ⟨p,n,e1,e2,_⟩:=hm c hc;obtain ⟨n',e3,e4,e5⟩:=E.nod c p e1;rw[e2]at e3;cases e3;simp only[e1,zzl,jaA e2];exact ⟨e4,e5⟩) (by
  rw[List.pairwise_map];refine List.Pairwise.imp_of_mem (fun {a b} ha hb hne=>?_) hD;obtain ⟨p,n,e1,e2,_⟩:=hm a ha;obtain ⟨p',n',e3,e4,_⟩:=hm b hb;simp only[e1,e3,zzl,jaA e2,jaA e4];exact E.dis a b p p' n n' e1 e3 e2 e4 hne)
 rw[List.map_map]at h1;have h2:(Prod.snd ∘ fun c=>((φ c).getD 0,jbR h c))=jbR h:=rfl;rw[h2]at h1;have:=E.rm;have:=E.lf;have:=G.tt;rcases G.hv with ⟨a,b⟩|⟨a,b⟩ <;> omega
variable {b:Nat}
theorem zj4{P:Nat->Prop}{lo0 fr0 lo1 half t:Nat}{limS lim:Nat}(E:Old h φ lo0 fr0 half st.length)(G:GI P h φ st lo0 lo1 half t s C limS lim){a0:Nat}(hb:φ b=some p)(hn:h[b]?=some n)(hf:zaU n=false)(hP:P b)(h0:s.ws[a0]?=some x)(hx0:0<=x)(hx1:x<9223372036854775808)(hq:(if x%16=4 then (x/65536).toNat else a0)=p):
  ∃ r s' D,s.zhm a0=some (r,s')/\GI P h φ st lo0 lo1 half t s' (C++D) limS lim/\phi h lo1 (C++D) b=some r/\s'.ws.length=s.ws.length:=by
 unfold Sto.zhm;rw[h0];simp only;rw[if_neg (by omega),hq];by_cases hm:b∈C
 ·obtain ⟨i,hi,hib⟩:=List.getElem_of_mem hm;have hi2:C[C.idxOf b]?=some b:=by rw[zxI (zyB hm),List.getElem_idxOf]
  obtain ⟨p',n',e1,e2,e3,e4,e5⟩:=G.new _ b hi2;rw[hb]at e1;cases e1;rw[e3];have hr:0<=Hd 5 (pos h lo1 C (C.idxOf b)) 0/\Hd 5 (pos h lo1 C (C.idxOf b)) 0<9223372036854775808:=by
   have h1:pos h lo1 C (C.idxOf b)<=pos h lo1 C C.length:=jaT (zze (zyB hm));have h2:=G.room E G.nd G.cm;have h3:pos h lo1 C C.length=lo1+(C.map (jbR h)).sum:=by unfold pos;rw[zy3]
   have h4:=G.tt;have h5:=G.wl;have h6:=G.len;unfold Hd;rcases G.hv with ⟨a,b⟩|⟨a,b⟩ <;> omega
  have hk5:Hd 5 (pos h lo1 C (C.idxOf b)) 0%16=5:=zbz (by omega);have hw5:Hd 5 (pos h lo1 C (C.idxOf b)) 0/65536=(pos h lo1 C (C.idxOf b):Nat):=zdH (by omega) (by omega);simp only;rw[if_neg (by omega),if_pos hk5,hw5,zxY];refine ⟨pos h lo1 C (C.idxOf b),s,[],rfl,by rw[zyT];exact G,?_,rfl⟩;rw[zyT];unfold phi;rw[if_pos hm]
 ·obtain ⟨n',e1,e2⟩:=G.old b p hb hm;rw[hn]at e1;cases e1;have hok:=E.ok b n hn;have hat:AtC s.ws (Rf φ h) p n:=by
   rcases e2 with ⟨b',p',h1,_⟩|⟨_,h2⟩
   ·rw[h1]at hf;simp[zaU]at hf
   ·exact h2
  obtain ⟨c1,c2,c3⟩:=hat;obtain ⟨r1,r2⟩:=jaI hok;obtain ⟨k1,k2⟩:=jbU hf;have hbh:=jbX hok hf;obtain ⟨n',e3,e4,e5⟩:=E.nod b p hb;rw[hn]at e3;cases e3;have hcm:∀ c∈C++[b],∃ p n,φ c=some p/\h[c]?=some n/\zaU n=false:=by
   intro c hc;rcases zyc.1 hc with hc|hc
   ·exact G.cm c hc
   ·rw[zya.1 hc];exact ⟨p,n,hb,hn,hf⟩
  have hnd:(C++[b]).Nodup:=by
   rw[List.nodup_append];exact ⟨G.nd,by simp,fun x hx y hy=>by rw[zya.1 hy];exact fun e=>hm (e ▸ hx)⟩
  have hroom:=G.room E hnd hcm;have hfr:s.free=lo1+(C.map (jbR h)).sum:=by rw[G.fr];unfold pos;rw[zy3]
  rw[zy1,zy0]at hroom;simp only[zx6,List.map_nil,zx9,List.sum_nil,jaA hn]at hroom;have htt:=G.tt;have hlen:=G.len;have hwl:=G.wl;have hrm:=E.rm;have hsp:1<=sz n:=ja7 n;have hlow:lo1<=s.free:=by omega
  have hft:s.free+sz n<=t:=by omega
  have hhalf:p+sz n<=lo0+half:=by omega
  have hsep:p+sz n<=s.free\/lo1+half<=p:=by rcases G.hv with ⟨a,b⟩|⟨a,b⟩ <;> omega
  have hup:lo1+half<=s.ws.length:=by rcases G.hv with ⟨a,b⟩|⟨a,b⟩ <;> omega
  have hup0:lo0+half<=s.ws.length:=by rcases G.hv with ⟨a,b⟩|⟨a,b⟩ <;> omega
  rw[c1];simp only;rw[if_neg (by omega),if_neg k2,if_pos ⟨by omega,by omega,by omega⟩];obtain ⟨ws',hws⟩:∃ ws',ws'=(Go.splice (s.ws.set s.free (hdr n)) (s.free+1) ((s.ws.drop (p+1)).take (behind (hdr n)))).set p (Hd 5 s.free 0):=⟨_,rfl⟩;have hcl:((s.ws.drop (p+1)).take (behind (hdr n))).length=behind (hdr n):=by rw[zyb,zyp];omega
  have hget:∀ j,ws'[j]?=if j=p then some (Hd 5 s.free 0) else if j=s.free then some (hdr n) else if s.free<j/\j<s.free+sz n then s.ws[p+(j-s.free)]? else s.ws[j]?:=by
   intro j;have hsl:(Go.splice (s.ws.set s.free (hdr n)) (s.free+1) ((s.ws.drop (p+1)).take (behind (hdr n)))).length=s.ws.length:=by rw[zyI _ _ _ (by rw[zx2,hcl];omega),zx2]
   rw[hws,zxR,hsl];by_cases hj:j=p
   ·subst hj;rw[if_pos rfl,if_pos (by omega),if_pos rfl]
   ·rw[if_neg (fun e=>hj e.symm),if_neg hj,jaC _ _ _ _ (by rw[zx2,hcl];omega),hcl];by_cases hj2:j=s.free
    ·subst hj2;rw[if_pos rfl,if_pos (by omega),zxR,if_pos rfl,if_pos (by omega)]
    ·have hset:(s.ws.set s.free (hdr n))[j]?=s.ws[j]?:=by rw[zxR,if_neg (fun e=>hj2 e.symm)]
     rw[if_neg hj2];by_cases h3:s.free<j/\j<s.free+sz n
     ·rw[if_pos h3,if_neg (by omega),if_pos (by omega),zyq,if_pos (by omega),zyr];congr 1;omega
     ·rw[if_neg h3];by_cases h4:j<s.free+1
      ·rw[if_pos h4,hset]
      ·rw[if_neg h4,if_neg (by omega),hset]
  have hpl:pos h lo1 (C++[b]) C.length=s.free:=by rw[jbI (zxJ _),G.fr]
  have hlast:(C++[b])[C.length]?=some b:=by simp
  have hpt:pos h lo1 (C++[b]) (C.length+1)=s.free+sz n:=by rw[jbB hlast,hpl,jaA hn]
  have hwsl:ws'.length=s.ws.length:=by
   rw[hws,zx2,zyI _ _ _ (by rw[zx2,hcl];omega),zx2]
  have hkeep:∀ j,j≠p->(j<s.free\/s.free+sz n<=j)->ws'[j]?=s.ws[j]?:=by
   intro j h1 h2;rw[hget,if_neg h1,if_neg (by omega),if_neg (by omega)]
  have hpos:∀ i c,C[i]?=some c->i<C.length/\pos h lo1 C i+jbR h c<=s.free/\lo1<=pos h lo1 C i/\pos h lo1 (C++[b]) i=pos h lo1 C i:=by
   intro i c hc;have hil:=(zxH.1 hc).1;refine ⟨hil,by rw[G.fr];exact ja0 hc hil,by unfold pos;omega,jbI (zze hil)⟩
  have hnew:∀ j,lo1<=j->j<lo1+half->j≠p:=by
   intro j h1 h2 e;rcases hsep with h3|h3
   ·rcases G.hv with ⟨a,b⟩|⟨a,b⟩ <;> omega
   ·omega
  have hget?:∀ (i c:Nat),(C++[b])[i]?=some c->(C[i]?=some c)\/(i=C.length/\c=b):=by
   intro i c hc;rw[zyd]at hc;split at hc
   ·exact .inl hc
   ·next hge=>
    have:=(zxH.1 hc).1;simp at this;have h1:i-C.length=0:=by omega
    rw[h1]at hc;simp at hc;exact .inr ⟨by omega,hc.symm⟩
  refine ⟨s.free,{ s with free:=s.free+1+behind (hdr n),ws:=ws' },[b],by rw[hws],⟨G.lw,G.hf,G.tp,G.hv,by simp only;omega,by simp only;omega,?_,G.tt,hnd,hcm,?_,?_,?_,?_,?_,?_⟩,?_,hwsl⟩
  ·simp only[zxP,zxW];rw[hpt];omega
  ·intro a q hq ha;have ha1:a ∉ C:=fun e=>ha (by simp[e])
   have ha2:a≠b:=fun e=>ha (by simp[e])
   obtain ⟨na,g1,g2⟩:=G.old a q hq ha1;refine ⟨na,g1,g2.congr (fun j j1 j2=>?_)⟩;obtain ⟨na',g3,g4,g5⟩:=E.nod a q hq;rw[g1]at g3;cases g3;have hd:=E.dis a b q p na n hq hb g1 hn ha2;refine hkeep j (by omega) ?_;rcases G.hv with ⟨a,b⟩|⟨a,b⟩ <;> omega
  ·intro i c hc;rcases hget? i c hc with hc|⟨rfl,rfl⟩
   ·obtain ⟨i1,i2,i3,i4⟩:=hpos i c hc;obtain ⟨q,m,g1,g2,g3,g4,g5⟩:=G.new i c hc;rw[jaA g2]at i2;have hsm:=ja7 m;rw[i4];obtain ⟨m',g6,g7,g8⟩:=E.nod c q g1;rw[g2]at g6;cases g6;have hcb:c≠b:=fun e=>hm (e ▸ zxX hc)
    have hd:=E.dis c b q p m n g1 hb g2 hn hcb;refine ⟨q,m,g1,g2,?_,?_,fun v hv=>?_⟩
    ·rw[hkeep q (by omega) (by rcases G.hv with ⟨a,b⟩|⟨a,b⟩ <;> omega)];exact g3
    ·rw[hkeep _ (hnew _ i3 (by omega)) (by omega)];exact g4
    ·have:sz m=2:=by rw[hv];rfl
     rw[hkeep _ (hnew _ (by omega) (by omega)) (by omega)];exact g5 v hv
   ·rw[hpl];refine ⟨p,n,hb,hn,?_,?_,fun v hv=>?_⟩
    ·rw[hget,if_pos rfl]
    ·rw[hget,if_neg (hnew _ hlow (by omega)),if_pos rfl]
    ·have hs2:sz n=2:=by rw[hv];rfl
     rw[hget,if_neg (hnew _ (by omega) (by omega)),if_neg (by omega),if_pos (by omega),show p+(s.free+1-s.free)=p+1 by omega];exact c2 v hv
  ·intro i c m j f hc hm' hf';have hjl:=(zxH.1 hf').1;have hsf:=jaP m;rcases hget? i c hc with hc|⟨rfl,rfl⟩
   ·obtain ⟨i1,i2,i3,i4⟩:=hpos i c hc;rw[jaA hm']at i2;rw[i4];obtain ⟨x,g1,g2⟩:=G.fld i c m j f hc hm' hf';refine ⟨x,by rw[hkeep _ (hnew _ (by omega) (by omega)) (by omega)];exact g1,?_⟩;split at g2
    ·next hlt=>rw[if_pos hlt];exact g2.app
    ·next hlt=>rw[if_neg hlt];exact g2
   ·rw[hn]at hm';cases hm';rw[hpl];have hlm:=G.lm;obtain ⟨x,g1,g2⟩:=c3 j f hf';refine ⟨x,?_,by rw[if_neg (by omega)];exact g2⟩;rw[hget,if_neg (hnew _ (by omega) (by omega)),if_neg (by omega),if_pos (by omega),show p+(s.free+1+j-s.free)=p+1+j by omega];exact g1
  ·intro i w hw;have hil:=(zxH.1 hw).1;obtain ⟨x,g1,g2⟩:=G.stk i w hw;refine ⟨x,by rw[hkeep _ (hnew _ (by omega) (by omega)) (by omega)];exact g1,?_⟩;split at g2
   ·next hlt=>rw[if_pos hlt];exact g2.app
   ·next hlt=>rw[if_neg hlt];exact g2
  ·have:=G.lm;simp only;omega
  ·intro c hc;rcases zyc.1 hc with hc|hc
   ·exact G.pc c hc
   ·rw[zya.1 hc];exact hP
  ·unfold phi;rw[if_pos (by simp),List.idxOf_append,if_neg hm];simp[hpl]
variable {P:Nat->Prop} {h:List Nd} {φ:Nat->Option Nat} {st:List Wd} {lo0 fr0 lo1 half t:Nat} {s:Sto} {C:List Nat} {limS lim:Nat}
theorem jb3(E:Old h φ lo0 fr0 half st.length)(G:GI P h φ st lo0 lo1 half t s C limS lim)(hb:φ b=some p)(hn:h[b]?=some n)(hf:zaU n=false):∃ x,s.ws[p]?=some x/\0<=x/\x<9223372036854775808/\x%16≠4:=by
 by_cases hm:b∈C
 ·have hi2:C[C.idxOf b]?=some b:=by rw[zxI (zyB hm),List.getElem_idxOf]
  obtain ⟨p',n',e1,e2,e3,_⟩:=G.new _ b hi2;rw[hb]at e1;cases e1;have h1:pos h lo1 C (C.idxOf b)<=pos h lo1 C C.length:=jaT (zze (zyB hm));have h2:=G.room E G.nd G.cm;have h3:pos h lo1 C C.length=lo1+(C.map (jbR h)).sum:=by unfold pos;rw[zy3]
  have h4:=G.tt;have h5:=G.wl;have h6:=G.len;refine ⟨_,e3,?_,?_,?_⟩
  ·unfold Hd;omega
  ·unfold Hd;rcases G.hv with ⟨a,b⟩|⟨a,b⟩ <;> omega
  ·rw[zbz (by omega)];omega
 ·obtain ⟨n',e1,e2⟩:=G.old b p hb hm;rw[hn]at e1;cases e1;rcases e2 with ⟨b',p',h1,_⟩|⟨_,h2,_⟩
  ·rw[h1]at hf;simp[zaU]at hf
  ·obtain ⟨r1,r2⟩:=jaI (E.ok b n hn);exact ⟨_,h2,r1,r2,(jbU hf).1⟩
theorem jaJ(hn:h[a]?=some n)(hf:zaU n=false):can h a=a:=by
 unfold can;rw[hn];cases n <;> first|rfl|simp[zaU]at hf
theorem jaY(hn:h[a]?=some (.fwd b)):can h a=b:=by
 unfold can;rw[hn]
theorem jb6(E:Old h φ lo0 fr0 half st.length)(G:GI P h φ st lo0 lo1 half t s C limS lim)(hr:Rf φ h x a)(hP:P (can h a)):
  0<=x/\∃ r s' D,s.zhm x.toNat=some (r,s')/\GI P h φ st lo0 lo1 half t s' (C++D) limS lim/\Rf (phi h lo1 (C++D)) h (r:Int) a/\s'.ws.length=s.ws.length:=by
 obtain ⟨p,rfl,hp⟩:=hr;refine ⟨by omega,?_⟩;rw[zxY];rcases hp with hp|⟨b,hb,hp⟩
 ·obtain ⟨n,hn,_,_⟩:=E.nod a p hp;cases hfw:zaU n with
  |false=>
   rw[jaJ hn hfw]at hP;obtain ⟨x,x1,x2,x3,x4⟩:=jb3 E G hp hn hfw;obtain ⟨r,s',D,c1,c2,c3,c4⟩:=zj4 E G hp hn hfw hP x1 x2 x3 (by rw[if_neg x4]);exact ⟨r,s',D,c1,c2,⟨r,rfl,.inl c3⟩,c4⟩
  |true=>
   cases n with
   |fwd b=>
    rw[jaY hn]at hP;obtain ⟨nb,hnb,hnf⟩:=E.fw a b hn;have ham:a ∉ C:=fun hm=>by
     obtain ⟨_,n',_,e2,e3⟩:=G.cm a hm;rw[hn]at e2;cases e2;simp[zaU]at e3
    obtain ⟨n',e1,e2⟩:=G.old a p hp ham;rw[hn]at e1;cases e1;rcases e2 with ⟨b',p',h1,h2,h3⟩|⟨h1,_⟩
    ·cases h1;obtain ⟨_,_,hp1,hp2⟩:=E.nod b p' h2;have hrm:=E.rm;have hlen:=G.len;have hwl:=G.wl;have hpl:p'<=1000000:=by rcases G.hv with ⟨a,b⟩|⟨a,b⟩ <;> omega
     have hk:Hd 4 p' 0%16=4:=zbz (by omega);have hw:Hd 4 p' 0/65536=(p':Int):=zdH (by omega) (by omega);obtain ⟨r,s',D,c1,c2,c3,c4⟩:=zj4 E G h2 hnb hnf hP h3 (by unfold Hd;omega) (by unfold Hd;omega) (by rw[if_pos hk,hw,zxY]);exact ⟨r,s',D,c1,c2,⟨r,rfl,.inr ⟨b,hn,c3⟩⟩,c4⟩
    ·simp[zaU]at h1
   |_=>simp[zaU]at hfw
 ·obtain ⟨nb,hnb,hnf⟩:=E.fw a b hb;rw[jaY hb]at hP;obtain ⟨x,x1,x2,x3,x4⟩:=jb3 E G hp hnb hnf;obtain ⟨r,s',D,c1,c2,c3,c4⟩:=zj4 E G hp hnb hnf hP x1 x2 x3 (by rw[if_neg x4]);exact ⟨r,s',D,c1,c2,⟨r,rfl,.inr ⟨b,hb,c3⟩⟩,c4⟩
theorem GI.jaM(E:Old h φ lo0 fr0 half st.length)(G:GI P h φ st lo0 lo1 half t s C limS lim):lo1<=s.free/\s.free<=t/\lo1+half<=s.ws.length:=by
 have h2:=G.room E G.nd G.cm;have h3:pos h lo1 C C.length=lo1+(C.map (jbR h)).sum:=by unfold pos;rw[zy3]
 have:=G.fr;have:=G.len;refine ⟨by omega,by omega,?_⟩;rcases G.hv with ⟨a,b⟩|⟨a,b⟩ <;> omega
theorem GI.zld(G:GI P h φ st lo0 lo1 half t s C limS lim)(hc:C[i]?=some c)(hn:h[c]?=some n):lo1<=pos h lo1 C i/\pos h lo1 C i+sz n<=s.free:=by
 refine ⟨by unfold pos;omega,?_⟩;rw[<-jaA hn,G.fr];exact ja0 hc (zxH.1 hc).1
theorem GI.jcX(E:Old h φ lo0 fr0 half st.length)(G:GI P h φ st lo0 lo1 half t s C limS lim)(hp:φ a=some p)(hn:h[a]?=some n):∀ j,p<=j->j<p+sz n->¬ (lo1<=j/\j<lo1+half):=by
 intro j j1 j2 j3;obtain ⟨n',e1,e2,e3⟩:=E.nod a p hp;rw[hn]at e1;cases e1;have:=E.rm;rcases G.hv with ⟨a,b⟩|⟨a,b⟩ <;> omega
theorem GI.setS(E:Old h φ lo0 fr0 half st.length){o:Nat}{w:Wd}{r:Int}(G:GI P h φ st lo0 lo1 half t s C o lim)(hw:st[i]?=some w)(ho:o=lo1+half-1-i)(hr:RW (phi h lo1 C) h r w):GI P h φ st lo0 lo1 half t { s with ws:=s.ws.set o r } C (o+1) lim:=by
 obtain ⟨f1,f2,f3⟩:=G.jaM E;have hil:=(zxH.1 hw).1;have htt:=G.tt;have hrm:=E.rm;have hother:∀ j,j≠o->(s.ws.set o r)[j]?=s.ws[j]?:=fun j hj=>by rw[zxR,if_neg (fun e=>hj e.symm)]
 refine ⟨G.lw,G.hf,G.tp,G.hv,by simp only[zx2];exact G.len,by simp only[zx2];exact G.wl,G.fr,G.tt,G.nd,G.cm,?_,?_,?_,?_,G.lm,G.pc⟩
 ·intro a p hp ha;obtain ⟨n,e1,e2⟩:=G.old a p hp ha;refine ⟨n,e1,e2.congr (fun j j1 j2=>hother j (fun e=>?_))⟩;exact G.jcX E hp e1 j j1 j2 (by omega)
 ·intro k c hc;obtain ⟨p,n,e1,e2,e3,e4,e5⟩:=G.new k c hc;obtain ⟨p1,p2⟩:=G.zld hc e2;have hs:=ja7 n;refine ⟨p,n,e1,e2,?_,?_,fun v hv=>?_⟩
  ·rw[hother p (fun e=>G.jcX E e1 e2 p (zxJ _) (by omega) (by omega))];exact e3
  ·rw[hother _ (by omega)];exact e4
  ·have:sz n=2:=by rw[hv];rfl
   rw[hother _ (by omega)];exact e5 v hv
 ·intro k c n j f hc hn hf;obtain ⟨p1,p2⟩:=G.zld hc hn;have hjl:=(zxH.1 hf).1;have hs:=jaP n;obtain ⟨x,g1,g2⟩:=G.fld k c n j f hc hn hf;exact ⟨x,by rw[hother _ (by omega)];exact g1,g2⟩
 ·intro k w' hw';have hkl:=(zxH.1 hw').1;obtain ⟨x,g1,g2⟩:=G.stk k w' hw';by_cases hk:k=i
  ·subst hk;rw[hw]at hw';cases hw';refine ⟨r,?_,by rw[if_pos (by omega)];exact hr⟩;rw[<-ho];simp only;rw[zxR,if_pos rfl,if_pos (by omega)]
  ·refine ⟨x,by simp only;rw[hother _ (by omega)];exact g1,?_⟩;by_cases hlt:lo1+half-1-k<o
   ·rw[if_pos hlt]at g2;rw[if_pos (by omega)];exact g2
   ·rw[if_neg hlt]at g2;rw[if_neg (by omega)];exact g2
theorem jcY{α:Type}{l:List α}{x:α}(hx:l[i]?=some x):l.set i x=l:=by
 apply List.ext_getElem?;intro j;rw[zxR];split
 ·next e=>
  subst e;rw[if_pos (zxH.1 hx).1,hx]
 ·rfl
theorem jaW(E:Old h φ lo0 fr0 half st.length)(hP:∀ (i a:Nat),st[i]?=some (.ad a)->P (can h a)):∀ (k o:Nat) (s:Sto) (C:List Nat),GI P h φ st lo0 lo1 half t s C o lim->o+k=lo1+half->t<=o->∃ s' D,s.zfF o k=some s'/\GI P h φ st lo0 lo1 half t s' (C++D) (lo1+half) lim
 |0,o,s,C,G,ho,_=>⟨s,[],rfl,by rw[zyT,<-ho];exact G⟩
 |k+1,o,s,C,G,ho,hto=>by
  have htt:=G.tt;obtain ⟨w,hw⟩:∃ w,st[lo1+half-1-o]?=some w:=⟨_,zxI (by omega)⟩;obtain ⟨x,g1,g2⟩:=G.stk _ w hw;have hoo:lo1+half-1-(lo1+half-1-o)=o:=by omega
  rw[hoo,if_neg (by omega)]at g2;rw[hoo]at g1;rw[Sto.zfF,g1];simp only;cases w with
  |mk m b=>
   have hx:x=Mk m b:=g2;have hneg:x<0:=by rw[hx];unfold Mk;omega
   rw[if_pos hneg];have G2:=G.setS E hw (by omega) (r:=x) hx;rw[jcY g1]at G2;exact jaW E hP k (o+1) s C G2 (by omega) (by omega)
  |ad a=>
   obtain ⟨hx0,r,s1,D,c1,c2,c3,c4⟩:=jb6 E G g2 (hP _ a hw);rw[if_neg (by omega),c1];simp only;have G2:=c2.setS E hw (by omega) (r:=r) c3;obtain ⟨s',D',d1,d2⟩:=jaW E hP k (o+1) _ (C++D) G2 (by omega) (by omega);exact ⟨s',D++D',d1,by rw[<-zye];exact d2⟩
theorem znW(E:Old h φ lo0 fr0 half st.length):∀ (fc:List Int) (fns:List Nat) (s:Sto) (C:List Nat),GI P h φ st lo0 lo1 half t s C limS lim->fc.length=fns.length->(∀ (i a:Nat),fns[i]?=some a->∃ x,fc[i]?=some x/\Rf φ h x a)->(∀ a∈fns,P (can h a)) ->
  ∃ fc' s' D,s.zdT fc=some (fc',s')/\GI P h φ st lo0 lo1 half t s' (C++D) limS lim/\fc'.length=fns.length/\∀ (i a:Nat),fns[i]?=some a->∃ x,fc'[i]?=some x/\Rf (phi h lo1 (C++D)) h x a
 |[],fns,s,C,G,hl,_,_=>⟨[],s,[],rfl,by rw[zyT];exact G,hl,fun i a ha=>by
   have:fns=[]:=zyj.1 hl.symm;rw[this]at ha;simp at ha⟩
 |x::fc,[],s,C,G,hl,_,_=>by simp at hl
 |x::fc,a::fns,s,C,G,hl,hr,hP=>by
  obtain ⟨x',e1,e2⟩:=hr 0 a rfl;simp at e1;subst e1;obtain ⟨hx0,r,s1,D,c1,c2,c3,c4⟩:=jb6 E G e2 (hP a (by simp));rw[Sto.zdT,if_neg (by omega),c1];simp only;obtain ⟨fc',s',D',d1,d2,d3,d4⟩:=znW E fc fns s1 (C++D) c2 (by simpa using hl) (fun i b hb=>by
   obtain ⟨y,y1,y2⟩:=hr (i+1) b (by simpa using hb);exact ⟨y,by simpa using y1,y2⟩) (fun b hb=>hP b (by simp[hb]))
  rw[d1];refine ⟨(r:Int)::fc',s',D++D',rfl,by rw[<-zye];exact d2,by simp[d3],fun i b hb=>?_⟩;rw[<-zye];cases i with
  |zero=>
   simp at hb;subst hb;exact ⟨r,rfl,c3.app⟩
  |succ i=>
   obtain ⟨y,y1,y2⟩:=d4 i b (by simpa using hb);exact ⟨y,by simpa using y1,y2⟩
variable {P:Nat->Prop} {h:List Nd} {φ:Nat->Option Nat} {st:List Wd} {lo0 fr0 lo1 half t:Nat} {s:Sto} {C:List Nat} {limS lim:Nat}
theorem GI.raise(G:GI P h φ st lo0 lo1 half t s C limS lim){lim':Nat}(hle:lim<=lim')(hl:lim'<=s.free)(hno:∀ (i c:Nat) (n:Nd) (j f:Nat),C[i]?=some c->h[c]?=some n->(zdm n)[j]?=some f->pos h lo1 C i+1+j<lim\/lim'<=pos h lo1 C i+1+j):GI P h φ st lo0 lo1 half t s C limS lim':=by
 refine ⟨G.lw,G.hf,G.tp,G.hv,G.len,G.wl,G.fr,G.tt,G.nd,G.cm,G.old,G.new,?_,G.stk,hl,G.pc⟩;intro i c n j f hc hn hf;obtain ⟨x,g1,g2⟩:=G.fld i c n j f hc hn hf;refine ⟨x,g1,?_⟩;have:=hno i c n j f hc hn hf;by_cases hlt:pos h lo1 C i+1+j<lim
 ·rw[if_pos hlt]at g2;rw[if_pos (by omega)];exact g2
 ·rw[if_neg hlt]at g2;rw[if_neg (by omega)];exact g2
theorem GI.setF(E:Old h φ lo0 fr0 half st.length){o f:Nat}{r:Int}(G:GI P h φ st lo0 lo1 half t s C limS o)(hc:C[i]?=some c)(hn:h[c]?=some n)(hf:(zdm n)[j]?=some f)(ho:o=pos h lo1 C i+1+j)(hr:Rf (phi h lo1 C) h r f):GI P h φ st lo0 lo1 half t { s with ws:=s.ws.set o r } C limS (o+1):=by
 obtain ⟨f1,f2,f3⟩:=G.jaM E;obtain ⟨q1,q2⟩:=G.zld hc hn;have hjl:=(zxH.1 hf).1;have hsn:=jaP n;have htt:=G.tt;have hother:∀ j,j≠o->(s.ws.set o r)[j]?=s.ws[j]?:=fun j hj=>by rw[zxR,if_neg (fun e=>hj e.symm)]
 have hidx:∀ (i' c':Nat) (n':Nd),C[i']?=some c'->h[c']?=some n'->i'≠i->pos h lo1 C i'+sz n'<=pos h lo1 C i\/pos h lo1 C i+sz n<=pos h lo1 C i':=by
  intro i' c' n' hc' hn' hne;rcases Nat.lt_or_gt_of_ne hne with hlt|hlt
  ·left;rw[<-jaA hn'];exact ja0 hc' hlt
  ·right;rw[<-jaA hn];exact ja0 hc hlt
 refine ⟨G.lw,G.hf,G.tp,G.hv,by simp only[zx2];exact G.len,by simp only[zx2];exact G.wl,G.fr,G.tt,G.nd,G.cm,?_,?_,?_,?_,by simp only;omega,G.pc⟩
 ·intro a p hp ha;obtain ⟨m,e1,e2⟩:=G.old a p hp ha;refine ⟨m,e1,e2.congr (fun j j1 j2=>hother j (fun e=>?_))⟩;exact G.jcX E hp e1 j j1 j2 (by omega)
 ·intro k c' hc';obtain ⟨p,m,e1,e2,e3,e4,e5⟩:=G.new k c' hc';obtain ⟨p1,p2⟩:=G.zld hc' e2;have hs:=ja7 m;have hne:pos h lo1 C k≠o/\(sz m=2->zdm m=[]->pos h lo1 C k+1≠o):=by
   by_cases hk:k=i
   ·subst hk;rw[hc]at hc';cases hc';rw[hn]at e2;cases e2;refine ⟨by omega,fun _ h0=>?_⟩;rw[h0]at hf;simp at hf
   ·have:=hidx k c' m hc' e2 hk;exact ⟨by omega,fun _ _=>by omega⟩
  refine ⟨p,m,e1,e2,?_,?_,fun v hv=>?_⟩
  ·rw[hother p (fun e=>G.jcX E e1 e2 p (zxJ _) (by omega) (by omega))];exact e3
  ·rw[hother _ hne.1];exact e4
  ·rw[hother _ (hne.2 (by rw[hv];rfl) (by rw[hv];rfl))];exact e5 v hv
 ·intro k c' m j' f' hc' hm hf';obtain ⟨x,g1,g2⟩:=G.fld k c' m j' f' hc' hm hf';have hjl':=(zxH.1 hf').1;have hsm:=jaP m;by_cases hsame:pos h lo1 C k+1+j'=o
  ·have hk:k=i:=by
    by_cases hk:k=i
    ·exact hk
    ·have:=hidx k c' m hc' hm hk;omega
   subst hk;rw[hc]at hc';cases hc';rw[hn]at hm;cases hm;have hj:j'=j:=by omega
   subst hj;rw[hf]at hf';cases hf';refine ⟨r,?_,by rw[if_pos (by omega)];exact hr⟩;simp only;rw[hsame,zxR,if_pos rfl,if_pos (by omega)]
  ·refine ⟨x,by simp only;rw[hother _ hsame];exact g1,?_⟩;by_cases hlt:pos h lo1 C k+1+j' < o
   ·rw[if_pos hlt]at g2;rw[if_pos (by omega)];exact g2
   ·rw[if_neg hlt]at g2;rw[if_neg (by omega)];exact g2
 ·intro k w hw;have hkl:=(zxH.1 hw).1;obtain ⟨x,g1,g2⟩:=G.stk k w hw;exact ⟨x,by simp only;rw[hother _ (by omega)];exact g1,g2⟩
theorem zlL(E:Old h φ lo0 fr0 half st.length){i c:Nat}{n:Nd}(hn:h[c]?=some n)(hP:∀ f∈zdm n,P (can h f)):∀ (k j:Nat) (s:Sto) (C:List Nat),C[i]?=some c->GI P h φ st lo0 lo1 half t s C limS (pos h lo1 C i+1+j)->j+k=(zdm n).length ->
  ∃ s' D,s.zfF (pos h lo1 C i+1+j) k=some s'/\GI P h φ st lo0 lo1 half t s' (C++D) limS (pos h lo1 C i+1+(zdm n).length)
 |0,j,s,C,hc,G,hj=>⟨s,[],rfl,by rw[zyT,<-hj];exact G⟩
 |k+1,j,s,C,hc,G,hj=>by
  obtain ⟨f,hf⟩:∃ f,(zdm n)[j]?=some f:=⟨_,zxI (by omega)⟩;obtain ⟨x,g1,g2⟩:=G.fld i c n j f hc hn hf;rw[if_neg (by omega)]at g2;obtain ⟨hx0,r,s1,D,c1,c2,c3,c4⟩:=jb6 E G g2 (hP f (zxX hf));rw[Sto.zfF,g1];simp only;rw[if_neg (by omega),c1];simp only;have hil:=(zxH.1 hc).1;have hpos:pos h lo1 (C++D) i=pos h lo1 C i:=jbI (zze hil);have hc2:(C++D)[i]?=some c:=by rw[zx8 hil];exact hc
  have G2:=c2.setF E hc2 hn hf (by rw[hpos]) c3;have hG3:GI P h φ st lo0 lo1 half t { s1 with ws:=s1.ws.set (pos h lo1 C i+1+j) r } (C++D) limS (pos h lo1 (C++D) i+1+(j+1)):=by rw[hpos];exact G2
  obtain ⟨s',D',d1,d2⟩:=zlL E hn hP k (j+1) _ (C++D) hc2 hG3 (by omega);rw[hpos]at d1 d2;exact ⟨s',D++D',d1,by rw[<-zye];exact d2⟩
theorem jcM(E:Old h φ lo0 fr0 half st.length)(hP:∀ (c:Nat) (n:Nd) (f:Nat),P c->h[c]?=some n->f∈zdm n->P (can h f)):∀ (fuel k:Nat) (s:Sto) (C:List Nat),GI P h φ st lo0 lo1 half t s C limS (pos h lo1 C k)->k<=C.length->t+1<=pos h lo1 C k+fuel ->
  ∃ s' D,s.scan (pos h lo1 C k) fuel=some s'/\GI P h φ st lo0 lo1 half t s' (C++D) limS s'.free
 |0,k,s,C,G,hk,hf=>by
  have:=G.lm;have:=G.jaM E;omega
 |fuel+1,k,s,C,G,hk,hf=>by
  obtain ⟨f1,f2,f3⟩:=G.jaM E;rw[Sto.scan];by_cases hlt:k<C.length
  ·obtain ⟨c,hc⟩:∃ c,C[k]?=some c:=⟨_,zxI hlt⟩;obtain ⟨p,n,e1,e2,e3,e4,e5⟩:=G.new k c hc;obtain ⟨q1,q2⟩:=G.zld hc e2;have hs:=ja7 n;have hsf:=jaP n;obtain ⟨_,n',_,e6,hfw⟩:=G.cm c (zxX hc);rw[e2]at e6;cases e6;have hok:=E.ok c n e2;obtain ⟨r1,r2⟩:=jaI hok;have hcnt:=jc3 hok hfw;have hbh:=jbX hok hfw;have htt:=G.tt;rw[if_pos (by omega),e4];simp only;rw[hcnt,if_neg (by omega)];have hno:∀ (i c':Nat) (n':Nd) (j f:Nat),C[i]?=some c'->h[c']?=some n'->(zdm n')[j]?=some f->pos h lo1 C i+1+j<pos h lo1 C k\/pos h lo1 C k+1+0<=pos h lo1 C i+1+j:=by
    intro i c' n' j f hc' hn' hf';have hjl:=(zxH.1 hf').1;have hsn:=jaP n';by_cases hik:i<k
    ·left;have:=ja0 (h:=h) (base:=lo1) hc' hik;rw[jaA hn']at this;omega
    ·right;have:pos h lo1 C k<=pos h lo1 C i:=jaT (by omega);omega
   have G1:=G.raise (lim':=pos h lo1 C k+1+0) (by omega) (by omega) hno;obtain ⟨s1,D,d1,d2⟩:=zlL E e2 (fun f hf=>hP c n f (G.pc c (zxX hc)) e2 hf) (zdm n).length 0 s C hc G1 (by omega);rw[zyK]at d1;rw[d1];simp only;have hpos:pos h lo1 (C++D) k=pos h lo1 C k:=jbI hk;have hc2:(C++D)[k]?=some c:=by rw[zx8 hlt];exact hc
   obtain ⟨p',n',g1,g2,g3,g4,g5⟩:=d2.new k c hc2;rw[e2]at g2;cases g2;rw[hpos]at g4;rw[g4];simp only;rw[if_neg (by omega)];have hnext:pos h lo1 C k+1+behind (hdr n)=pos h lo1 (C++D) (k+1):=by
    rw[jbB hc2,hpos,jaA e2];omega
   rw[hnext];have hfl:=d2.jaM E;have hps:pos h lo1 (C++D) (k+1)=pos h lo1 C k+sz n:=by rw[jbB hc2,hpos,jaA e2]
   have hle:pos h lo1 (C++D) (k+1)<=s1.free:=by rw[d2.fr];exact jaT (by simp;omega)
   have hno2:∀ (i c':Nat) (n':Nd) (j f:Nat),(C++D)[i]?=some c'->h[c']?=some n'->(zdm n')[j]?=some f->pos h lo1 (C++D) i+1+j<pos h lo1 C k+1+(zdm n).length\/pos h lo1 (C++D) (k+1)<=pos h lo1 (C++D) i+1+j:=by
    intro i c' n' j f hc' hn' hf';have hjl:=(zxH.1 hf').1;have hsn:=jaP n';rcases Nat.lt_trichotomy i k with hik|hik|hik
    ·left;have:=ja0 (h:=h) (base:=lo1) hc' hik;rw[jaA hn',hpos]at this;omega
    ·left;subst hik;rw[hc2]at hc';cases hc';rw[e2]at hn';cases hn';rw[hpos];omega
    ·right;have:pos h lo1 (C++D) (k+1)<=pos h lo1 (C++D) i:=jaT hik;omega
   have G3:=d2.raise (lim':=pos h lo1 (C++D) (k+1)) (by omega) hle hno2;obtain ⟨s',D',m1,m2⟩:=jcM E hP fuel (k+1) s1 (C++D) G3 (by simp;omega) (by omega);exact ⟨s',D++D',m1,by rw[<-zye];exact m2⟩
  ·have hkl:k=C.length:=by omega
   have hpe:pos h lo1 C k=s.free:=by rw[hkl,G.fr]
   rw[hpe,if_neg (by omega)];refine ⟨s,[],rfl,?_⟩;rw[zyT];rw[hpe]at G;exact G
inductive Reach (h:List Nd) (st:List Wd) (fns:List Nat):Nat->Prop where
 |stk {i a:Nat}:st[i]?=some (.ad a)->Reach h st fns (can h a)
 |fn {a:Nat}:a∈fns->Reach h st fns (can h a)
 |fld {c:Nat} {n:Nd} {f:Nat}:Reach h st fns c->h[c]?=some n->f∈zdm n->Reach h st fns (can h f)
variable {fc:List Int}
variable {fns:List Nat}
theorem jcT(R:Rel s fc h st fns φ):∃ fc' s' C,s.collect fc=some (fc',s')/\Rel s' fc' h st fns (phi h s'.low C)/\s'.half=s.half/\s'.ws.length=s.ws.length/\C.Nodup/\(∀ c∈C,Reach h st fns c)/\s'.free=s'.low+(C.map (jbR h)).sum/\∀ c∈C,∃ n,h[c]?=some n/\zaU n=false:=by
 have hlow:=R.low;have hlen:=R.len;have hwl:=R.wl;have hlf:=R.lf;have hft:=R.ft;have htp:=R.tp;obtain ⟨lo1,hlo1⟩:∃ lo1,lo1=s.half-s.low:=⟨_,rfl⟩;obtain ⟨t,ht⟩:∃ t,t=lo1+s.half-st.length:=⟨_,rfl⟩;have hn:s.low+s.half-s.top=st.length:=by omega
 have htl:t+st.length=lo1+s.half:=by omega
 have E:Old h φ s.low s.free s.half st.length:=⟨fun a p hp=>by
  obtain ⟨nd,a1,a2,a3,_⟩:=R.nod a p hp;exact ⟨nd,a1,a2,a3⟩,R.dis,R.ok,R.fw,by omega,hlf⟩
 have hv:(s.low=0/\lo1=s.half)\/(s.low=s.half/\lo1=0):=by omega
 have htd:s.zbQ={ s with low:=lo1,free:=lo1,top:=t,ws:=Go.splice s.ws t ((s.ws.drop s.top).take st.length) }:=by
  unfold Sto.zbQ;simp only[hn];rw[<-hlo1,<-ht]
 have hcl:((s.ws.drop s.top).take st.length).length=st.length:=by rw[zyb,zyp];omega
 have htw:t+st.length<=s.ws.length:=by omega
 have hsl:(Go.splice s.ws t ((s.ws.drop s.top).take st.length)).length=s.ws.length:=zyI _ _ _ (by rw[hcl];exact htw);have hget:∀ j,(Go.splice s.ws t ((s.ws.drop s.top).take st.length))[j]?=if t<=j/\j<lo1+s.half then s.ws[s.top+(j-t)]? else s.ws[j]?:=by
  intro j;rw[jaC _ _ _ _ (by rw[hcl];exact htw),hcl];by_cases h1:j<t
  ·rw[if_pos h1,if_neg (by omega)]
  ·rw[if_neg h1];by_cases h2:j<t+st.length
   ·rw[if_pos h2,if_pos (by omega),zyq,if_pos (by omega),zyr]
   ·rw[if_neg h2,if_neg (by omega)]
 have G0:GI (Reach h st fns) h φ st s.low lo1 s.half t { s with low:=lo1,free:=lo1,top:=t,ws:=Go.splice s.ws t ((s.ws.drop s.top).take st.length) } [] t lo1:=by
  refine ⟨rfl,rfl,rfl,hv,by simp only;omega,by simp only;omega,by simp[pos],htl,by simp,by simp,?_,by simp,by simp,?_,zxJ _,by simp⟩
  ·intro a p hp _;obtain ⟨nd,a1,a2,a3,a4⟩:=R.nod a p hp;refine ⟨nd,a1,a4.congr (fun j j1 j2=>?_)⟩;simp only;rw[hget,if_neg (by omega)]
  ·intro i w hw;have hil:=(zxH.1 hw).1;obtain ⟨x,x1,x2⟩:=R.stk i w hw;refine ⟨x,?_,by rw[if_neg (by omega)];exact x2⟩;simp only;rw[hget,if_pos (by omega),show s.top+(lo1+s.half-1-i-t)=s.low+s.half-1-i by omega];exact x1
 have hPs:∀ (i a:Nat),st[i]?=some (.ad a)->Reach h st fns (can h a):=fun i a ha=>.stk ha
 obtain ⟨s1,D1,b1,G1⟩:=jaW E hPs st.length t _ [] G0 htl (zxJ _);obtain ⟨fc',s2,D2,b2,G2,f1,f2⟩:=znW E fc fns s1 ([]++D1) G1 R.fl R.fn (fun a ha=>Reach.fn ha);have hp0:pos h lo1 ([]++D1++D2) 0=lo1:=by simp[pos]
 have hwl2:=G2.len;obtain ⟨s3,D3,b3,G3⟩:=jcM E (fun c n f hc hn hf=>Reach.fld hc hn hf) (s2.ws.length+1) 0 s2 ([]++D1++D2) (by rw[hp0];exact G2) (zx1 _) (by rw[hp0];have:=(G2.jaM E).2.2;omega);rw[hp0]at b3;obtain ⟨C,hC⟩:∃ C,C=[]++D1++D2++D3:=⟨_,rfl⟩;rw[<-hC]at G3;have hcoll:s.collect fc=some (fc',s3):=by
  unfold Sto.collect;rw[if_pos ⟨by omega,hlen,by omega,by omega⟩,htd];simp only;rw[show lo1+s.half-t=st.length by omega,b1];simp only;rw[b2];simp only;rw[G2.lw,b3]
 obtain ⟨q1,q2,q3⟩:=G3.jaM E;have hphi:∀ a p,phi h lo1 C a=some p->∃ i n,C[i]?=some a/\p=pos h lo1 C i/\h[a]?=some n/\zaU n=false:=by
  intro a p hp;unfold phi at hp;split at hp
  ·next hm=>
   cases hp;have hi2:C[C.idxOf a]?=some a:=by rw[zxI (zyB hm),List.getElem_idxOf]
   obtain ⟨_,n,_,e2,e3⟩:=G3.cm a hm;exact ⟨_,n,hi2,rfl,e2,e3⟩
  ·cases hp
 refine ⟨fc',s3,C,hcoll,?_,G3.hf,zlm hcoll,G3.nd,G3.pc,?_,fun c hc=>?_⟩
 ·rw[G3.lw];refine ⟨by rw[G3.lw,G3.hf];omega,by rw[G3.hf];exact G3.len,G3.wl,by rw[G3.lw];exact q1,by rw[G3.tp];exact q2,by rw[G3.tp,G3.lw,G3.hf];exact htl,?_,f1,?_,?_,?_,R.ok,R.fw⟩
  ·intro i w hw;have hil:=(zxH.1 hw).1;obtain ⟨x,x1,x2⟩:=G3.stk i w hw;rw[if_pos (by omega)]at x2;exact ⟨x,by rw[G3.lw,G3.hf];exact x1,x2⟩
  ·intro i a ha;obtain ⟨x,x1,x2⟩:=f2 i a ha;exact ⟨x,x1,by rw[hC];exact x2.app⟩
  ·intro a p hp;obtain ⟨i,n,e1,e2,e3,e4⟩:=hphi a p hp;obtain ⟨p1,p2⟩:=G3.zld e1 e3;obtain ⟨_,n',_,g2,_,g4,g5⟩:=G3.new i a e1;rw[e3]at g2;cases g2;refine ⟨n,e3,by rw[G3.lw,e2];exact p1,by rw[e2];exact p2,.inr ⟨e4,by rw[e2];exact g4,fun v hv=>by rw[e2];exact g5 v hv,fun j f hf=>?_⟩⟩;obtain ⟨x,x1,x2⟩:=G3.fld i a n j f e1 e3 hf;have hjl:=(zxH.1 hf).1;have hsn:=jaP n;rw[if_pos (by omega)]at x2;exact ⟨x,by rw[e2];exact x1,x2⟩
  ·intro a a' p p' n n' hp hp' hn hn' hne;obtain ⟨i,m,e1,e2,e3,e4⟩:=hphi a p hp;obtain ⟨i',m',e1',e2',e3',e4'⟩:=hphi a' p' hp';have hii:i≠i':=fun e=>by
    subst e;rw[e1]at e1';cases e1';exact hne rfl
   rw[e2,e2'];rcases Nat.lt_or_gt_of_ne hii with hlt|hlt
   ·left;rw[<-jaA hn];exact ja0 e1 hlt
   ·right;rw[<-jaA hn'];exact ja0 e1' hlt
 ·rw[G3.lw,G3.fr];unfold pos;rw[zy3]
 ·obtain ⟨_,n,_,e2,e3⟩:=G3.cm c hc;exact ⟨n,e2,e3⟩
structure Ma where
 h:List Nd
 st:List Wd
 fns:List Nat
 fuel:Nat
 next:Int
 below:Int
def Fits (hf:Nat) (A:Ma) (k:Nat):Prop:=∀ C:List Nat,C.Nodup->(∀ c∈C,Reach A.h A.st A.fns c)->(C.map (jbR A.h)).sum+A.st.length+k<=hf
open Classical in
def val (sl:List Nat):Nd->Prop
 |.num _=>True
 |.data _ _=>True
 |.clo b fs=>∃ n,sl[b]?=some n/\fs.length<n
 |_=>False
theorem jd3{sl:List Nat}(h:val sl n):zaU n=false:=by cases n <;> first|rfl|exact h.elim
structure MR (sl:List Nat) (hf:Nat) (m:MSt) (A:Ma) (φ:Nat->Option Nat):Prop where
 rel:Rel m.s m.fns A.h A.st A.fns φ
 half:m.s.half=hf
 fuel:m.o.fuel=A.fuel
 next:m.o.next=A.next
 below:m.o.below=A.below
 vi:∀ (a b:Nat),A.h[a]?=some (.fwd b)->∃ nd,A.h[b]?=some nd/\val sl nd
theorem jdN(R:Rel s fc h st fns φ)(hr:Rf φ h x a):∃ p n,φ (can h a)=some p/\h[can h a]?=some n/\zaU n=false:=by
 obtain ⟨p,rfl,hp⟩:=hr;rcases hp with hp|⟨b,hb,hp⟩
 ·obtain ⟨n,hn,_,_,hat⟩:=R.nod a p hp;rcases hat with ⟨b,p',rfl,h2,_⟩|⟨h1,_⟩
  ·rw[jaY hn];obtain ⟨nd,g1,g2⟩:=R.fw a b hn;exact ⟨p',nd,h2,g1,g2⟩
  ·rw[jaJ hn h1];exact ⟨p,n,hp,hn,h1⟩
 ·rw[jaY hb];obtain ⟨nd,g1,g2⟩:=R.fw a b hb;exact ⟨p,nd,hp,g1,g2⟩
theorem jbM(R:Rel s fc h st fns φ)(hc:Reach h st fns c):∃ p n,φ c=some p/\h[c]?=some n/\zaU n=false:=by
 induction hc with
 |stk hi=>
  obtain ⟨x,_,hr⟩:=R.stk _ _ hi;exact jdN R hr
 |fn ha=>
  obtain ⟨i,hi⟩:=List.mem_iff_getElem?.1 ha;obtain ⟨x,_,hr⟩:=R.fn i _ hi;exact jdN R hr
 |fld _ hn hf ih=>
  obtain ⟨p,n',e1,e2,e3⟩:=ih;rw[hn]at e2;cases e2;obtain ⟨n',g1,_,_,hat⟩:=R.nod _ p e1;rw[hn]at g1;cases g1;obtain ⟨i,hi⟩:=List.mem_iff_getElem?.1 hf;rcases hat with ⟨b,p',h1,_⟩|⟨_,_,_,h4⟩
  ·rw[h1]at e3;simp[zaU]at e3
  ·obtain ⟨x,_,hr⟩:=h4 i _ hi;exact jdN R hr
theorem zlA(R:Rel s fc h st fns φ)(hC:C.Nodup)(hr:∀ c∈C,Reach h st fns c):(C.map (jbR h)).sum<=s.free-s.low:=by
 have h1:=jdC s.low s.free (C.map fun c=>((φ c).getD 0,jbR h c)) (fun x hx=>by
  obtain ⟨c,hc,rfl⟩:=zyW.1 hx;obtain ⟨p,n,e1,e2,_⟩:=jbM R (hr c hc);obtain ⟨n',e3,e4,e5,_⟩:=R.nod c p e1;rw[e2]at e3;cases e3;simp only[e1,zzl,jaA e2];exact ⟨e4,e5⟩) (by
  rw[List.pairwise_map];refine List.Pairwise.imp_of_mem (fun {a b} ha hb hne=>?_) hC;obtain ⟨p,n,e1,e2,_⟩:=jbM R (hr a ha);obtain ⟨p',n',e3,e4,_⟩:=jbM R (hr b hb);simp only[e1,e3,zzl,jaA e2,jaA e4];exact R.dis a b p p' n n' e1 e3 e2 e4 hne)
 rw[List.map_map]at h1;exact h1
theorem zvx{sl:List Nat}{hf k:Nat}{m:MSt}{A:Ma}(M:MR sl hf m A φ):
  (Fits hf A k/\∃ m' φ',m.zdC k=some (.ok m')/\MR sl hf m' A φ'/\m'.s.free+k<=m'.s.top/\m'.o=m.o)\/(¬ Fits hf A k/\m.zdC k=some (.error 4)):=by
 have hlf:=M.rel.lf;have hft:=M.rel.ft;have htp:=M.rel.tp;have hh:=M.half;unfold MSt.zdC;by_cases hc:(k:Int)<=(m.s.top:Int)-(m.s.free:Int)
 ·rw[if_pos hc];left;refine ⟨fun C h1 h2=>?_,m,φ,rfl,M,by omega,rfl⟩;have:=zlA M.rel h1 h2;omega
 ·rw[if_neg hc];obtain ⟨fc',s',C,c1,c2,c3,c4,c5,c6,c7,c8⟩:=jcT M.rel;rw[c1];simp only;have hlf':=c2.lf;have hft':=c2.ft;have htp':=c2.tp;by_cases hd:(s'.top:Int)-(s'.free:Int)<(k:Int)
  ·rw[if_pos hd];right;refine ⟨fun hfit=>?_,rfl⟩;have:=hfit C c5 c6;omega
  ·rw[if_neg hd];left;refine ⟨fun C' h1 h2=>?_,_,phi A.h s'.low C,rfl,⟨c2,by simp only;omega,M.fuel,M.next,M.below,M.vi⟩,by simp only;omega,rfl⟩;have:=zlA c2 h1 h2;omega
end Ab
end Go.Proofs.YtgahgkddaljmkaaGreatDoor
