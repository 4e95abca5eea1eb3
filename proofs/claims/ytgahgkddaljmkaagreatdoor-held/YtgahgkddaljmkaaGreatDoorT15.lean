/- Gc4 .. Sf2 -/
import Derived.Test.YtgahgkddaljmkaaGreatDoorT14
set_option maxRecDepth 100000
set_option maxHeartbeats 4000000
namespace Go.Proofs.YtgahgkddaljmkaaGreatDoor
open Tryz
namespace Ab
variable {P:Nat->Prop} {h:List Nd} {φ:Nat->Option Nat} {st:List Wd} {cq fr0 au half t:Nat} {s:Sto} {C:List Nat} {bY fh:Nat}
theorem GI.raise(G:GI P h φ st cq au half t s C bY fh){lim':Nat}(hle:fh<=lim')(hl:lim'<=s.free)(nT:∀ (i c:Nat) (n:Nd) (j f:Nat),C[i]?=some c->h[c]?=some n->(zdd n)[j]?=some f->pos h au C i+1+j<fh\/lim'<=pos h au C i+1+j):GI P h φ st cq au half t s C bY lim':=by
 refine ⟨G.lw,G.hf,G.tp,G.hv,G.len,G.wl,G.fr,G.tt,G.nd,G.cm,G.old,G.new,?_,G.stk,hl,G.pc⟩;intro i c n j f hc hn hf;obtain ⟨x,g1,g2⟩:=G.fld i c n j f hc hn hf;refine ⟨x,g1,?_⟩;have:=nT i c n j f hc hn hf;by_cases aj:pos h au C i+1+j<fh
 ·rw[if_pos aj]at g2;rw[if_pos (by omega)];exact g2
 ·rw[if_neg aj]at g2;rw[if_neg (by omega)];exact g2
variable {i c:Nat}{n:Nd}
theorem GI.setF(E:Old h φ cq fr0 half st.length){o j f:Nat}{r:Int}(G:GI P h φ st cq au half t s C bY o)(hc:C[i]?=some c)(hn:h[c]?=some n)(hf:(zdd n)[j]?=some f)(ho:o=pos h au C i+1+j)(hr:Rf (phi h au C) h r f):GI P h φ st cq au half t { s with ws:=s.ws.set o r } C bY (o+1):=by
 obtain ⟨f1,f2,f3⟩:=G.zeP E;obtain ⟨q1,q2⟩:=G.zlI hc hn;have gT:=(zyL.1 hf).1;have fD:=zep n;have mi:=G.tt;have bS:∀ j,j≠o->(s.ws.set o r)[j]?=s.ws[j]?:=fun j hj=>by rw[zyV,if_neg (fun e=>hj e.symm)]
 have sw:∀ (i' c':Nat) (n':Nd),C[i']?=some c'->h[c']?=some n'->i'≠i->pos h au C i'+sz n'<=pos h au C i\/pos h au C i+sz n<=pos h au C i':=by
  intro i' c' n' eV gw aH;rcases Nat.lt_or_gt_of_ne aH with aj|aj
  ·left;rw[<-zbB gw];exact zii eV aj
  ·right;rw[<-zbB hn];exact zii hc aj
 refine ⟨G.lw,G.hf,G.tp,G.hv,by simp only[zy6];exact G.len,by simp only[zy6];exact G.wl,G.fr,G.tt,G.nd,G.cm,?_,?_,?_,?_,by simp only;omega,G.pc⟩
 ·intro a p hp ha;obtain ⟨m,e1,e2⟩:=G.old a p hp ha;refine ⟨m,e1,e2.congr (fun j j1 j2=>bS j (fun e=>?_))⟩;exact G.zqJ E hp e1 j j1 j2 (by omega)
 ·intro k c' eV;obtain ⟨p,m,e1,e2,e3,e4,e5⟩:=G.new k c' eV;obtain ⟨p1,p2⟩:=G.zlI eV e2;have hs:=zhd m;have aH:pos h au C k≠o/\(sz m=2->zdd m=[]->pos h au C k+1≠o):=by
   by_cases hk:k=i
   ·subst hk;rw[hc]at eV;cases eV;rw[hn]at e2;cases e2;refine ⟨by omega,fun _ h0=>?_⟩;rw[h0]at hf;simp at hf
   ·have:=sw k c' m eV e2 hk;exact ⟨by omega,fun _ _=>by omega⟩
  refine ⟨p,m,e1,e2,?_,?_,fun v hv=>?_⟩
  ·rw[bS p (fun e=>G.zqJ E e1 e2 p (zyN _) (by omega) (by omega))];exact e3
  ·rw[bS _ aH.1];exact e4
  ·rw[bS _ (aH.2 (by rw[hv];rfl) (by rw[hv];rfl))];exact e5 v hv
 ·intro k c' m j' f' eV hm dr;obtain ⟨x,g1,g2⟩:=G.fld k c' m j' f' eV hm dr;have EE:=(zyL.1 dr).1;have uQ:=zep m;by_cases n8:pos h au C k+1+j'=o
  ·have hk:k=i:=by
    by_cases hk:k=i
    ·exact hk
    ·have:=sw k c' m eV hm hk;omega
   subst hk;rw[hc]at eV;cases eV;rw[hn]at hm;cases hm;have hj:j'=j:=by omega
   subst hj;rw[hf]at dr;cases dr;refine ⟨r,?_,by rw[if_pos (by omega)];exact hr⟩;simp only;rw[n8,zyV,if_pos rfl,if_pos (by omega)]
  ·refine ⟨x,by simp only;rw[bS _ n8];exact g1,?_⟩;by_cases aj:pos h au C k+1+j' < o
   ·rw[if_pos aj]at g2;rw[if_pos (by omega)];exact g2
   ·rw[if_neg aj]at g2;rw[if_neg (by omega)];exact g2
 ·intro k w hw;have nS:=(zyL.1 hw).1;obtain ⟨x,g1,g2⟩:=G.stk k w hw;exact ⟨x,by simp only;rw[bS _ (by omega)];exact g1,g2⟩
theorem zld(E:Old h φ cq fr0 half st.length){i c:Nat}{n:Nd}(hn:h[c]?=some n)(hP:∀ f∈zdd n,P (can h f)):∀ (k j:Nat) (s:Sto) (C:List Nat),C[i]?=some c->GI P h φ st cq au half t s C bY (pos h au C i+1+j)->j+k=(zdd n).length ->
  ∃ s' D,s.zfI (pos h au C i+1+j) k=some s'/\GI P h φ st cq au half t s' (C++D) bY (pos h au C i+1+(zdd n).length)
 |0,j,s,C,hc,G,hj=>⟨s,[],rfl,by rw[zzS,<-hj];exact G⟩
 |k+1,j,s,C,hc,G,hj=>by
  obtain ⟨f,hf⟩:∃ f,(zdd n)[j]?=some f:=⟨_,zyM (by omega)⟩;obtain ⟨x,g1,g2⟩:=G.fld i c n j f hc hn hf;rw[if_neg (by omega)]at g2;obtain ⟨cX,r,s1,D,c1,c2,c3,c4⟩:=zmc E G g2 (hP f (zy1 hf));rw[Sto.zfI,g1];simp only;rw[if_neg (by omega),c1];simp only;have br:=(zyL.1 hc).1;have bp:pos h au (C++D) i=pos h au C i:=zjB (zAk br);have bT:(C++D)[i]?=some c:=by rw[zzc br];exact hc
  have G2:=c2.setF E bT hn hf (by rw[bp]) c3;have DV:GI P h φ st cq au half t { s1 with ws:=s1.ws.set (pos h au C i+1+j) r } (C++D) bY (pos h au (C++D) i+1+(j+1)):=by rw[bp];exact G2
  obtain ⟨s',D',d1,d2⟩:=zld E hn hP k (j+1) _ (C++D) bT DV (by omega);rw[bp]at d1 d2;exact ⟨s',D++D',d1,by rw[<-zzk];exact d2⟩
theorem zqQ(E:Old h φ cq fr0 half st.length)(hP:∀ (c:Nat) (n:Nd) (f:Nat),P c->h[c]?=some n->f∈zdd n->P (can h f)):∀ (fuel k:Nat) (s:Sto) (C:List Nat),GI P h φ st cq au half t s C bY (pos h au C k)->k<=C.length->t+1<=pos h au C k+fuel ->
  ∃ s' D,s.scan (pos h au C k) fuel=some s'/\GI P h φ st cq au half t s' (C++D) bY s'.free
 |0,k,s,C,G,hk,hf=>by
  have:=G.lm;have:=G.zeP E;omega
 |fuel+1,k,s,C,G,hk,hf=>by
  obtain ⟨f1,f2,f3⟩:=G.zeP E;rw[Sto.scan];by_cases aj:k<C.length
  ·obtain ⟨c,hc⟩:∃ c,C[k]?=some c:=⟨_,zyM aj⟩;obtain ⟨p,n,e1,e2,e3,e4,e5⟩:=G.new k c hc;obtain ⟨q1,q2⟩:=G.zlI hc e2;have hs:=zhd n;have Fa:=zep n;obtain ⟨_,n',_,e6,gr⟩:=G.cm c (zy1 hc);rw[e2]at e6;cases e6;have bU:=E.ok c n e2;obtain ⟨r1,r2⟩:=zde bU;have xr:=ztf bU gr;have xl:=zlr bU gr;have mi:=G.tt;rw[if_pos (by omega),e4];simp only;rw[xr,if_neg (by omega)];have nT:∀ (i c':Nat) (n':Nd) (j f:Nat),C[i]?=some c'->h[c']?=some n'->(zdd n')[j]?=some f->pos h au C i+1+j<pos h au C k\/pos h au C k+1+0<=pos h au C i+1+j:=by
    intro i c' n' j f eV gw dr;have gT:=(zyL.1 dr).1;have fD:=zep n';by_cases oZ:i<k
    ·left;have:=zii (h:=h) (base:=au) eV oZ;rw[zbB gw]at this;omega
    ·right;have:pos h au C k<=pos h au C i:=zfC (by omega);omega
   have G1:=G.raise (lim':=pos h au C k+1+0) (by omega) (by omega) nT;obtain ⟨s1,D,d1,d2⟩:=zld E e2 (fun f hf=>hP c n f (G.pc c (zy1 hc)) e2 hf) (zdd n).length 0 s C hc G1 (by omega);rw[zzO]at d1;rw[d1];simp only;have bp:pos h au (C++D) k=pos h au C k:=zjB hk;have bT:(C++D)[k]?=some c:=by rw[zzc aj];exact hc
   obtain ⟨p',n',g1,g2,g3,g4,g5⟩:=d2.new k c bT;rw[e2]at g2;cases g2;rw[bp]at g4;rw[g4];simp only;rw[if_neg (by omega)];have sK:pos h au C k+1+behind (hdr n)=pos h au (C++D) (k+1):=by
    rw[ziS bT,bp,zbB e2];omega
   rw[sK];have bZ:=d2.zeP E;have sQ:pos h au (C++D) (k+1)=pos h au C k+sz n:=by rw[ziS bT,bp,zbB e2]
   have hle:pos h au (C++D) (k+1)<=s1.free:=by rw[d2.fr];exact zfC (by simp;omega)
   have xQ:∀ (i c':Nat) (n':Nd) (j f:Nat),(C++D)[i]?=some c'->h[c']?=some n'->(zdd n')[j]?=some f->pos h au (C++D) i+1+j<pos h au C k+1+(zdd n).length\/pos h au (C++D) (k+1)<=pos h au (C++D) i+1+j:=by
    intro i c' n' j f eV gw dr;have gT:=(zyL.1 dr).1;have fD:=zep n';rcases Nat.lt_trichotomy i k with oZ|oZ|oZ
    ·left;have:=zii (h:=h) (base:=au) eV oZ;rw[zbB gw,bp]at this;omega
    ·left;subst oZ;rw[bT]at eV;cases eV;rw[e2]at gw;cases gw;rw[bp];omega
    ·right;have:pos h au (C++D) (k+1)<=pos h au (C++D) i:=zfC oZ;omega
   have G3:=d2.raise (lim':=pos h au (C++D) (k+1)) (by omega) hle xQ;obtain ⟨s',D',m1,m2⟩:=zqQ E hP fuel (k+1) s1 (C++D) G3 (by simp;omega) (by omega);exact ⟨s',D++D',m1,by rw[<-zzk];exact m2⟩
  ·have nS:k=C.length:=by omega
   have uP:pos h au C k=s.free:=by rw[nS,G.fr]
   rw[uP,if_neg (by omega)];refine ⟨s,[],rfl,?_⟩;rw[zzS];rw[uP]at G;exact G
inductive Reach (h:List Nd) (st:List Wd) (fns:List Nat):Nat->Prop where
 |stk {i a:Nat}:st[i]?=some (.ad a)->Reach h st fns (can h a)
 |fn {a:Nat}:a∈fns->Reach h st fns (can h a)
 |fld {c:Nat} {n:Nd} {f:Nat}:Reach h st fns c->h[c]?=some n->f∈zdd n->Reach h st fns (can h f)
variable {fc:List Int}{fns:List Nat}
theorem zpj(R:Rel s fc h st fns φ):∃ kd s' C,s.collect fc=some (kd,s')/\Rel s' kd h st fns (phi h s'.low C)/\s'.half=s.half/\s'.ws.length=s.ws.length/\C.Nodup/\(∀ c∈C,Reach h st fns c)/\s'.free=s'.low+(C.map (zkL h)).sum/\∀ c∈C,∃ n,h[c]?=some n/\zaV n=false:=by
 have sF:=R.low;have hlen:=R.len;have eE:=R.wl;have uM:=R.lf;have iY:=R.ft;have fg:=R.tp;obtain ⟨au,xJ⟩:∃ au,au=s.half-s.low:=⟨_,rfl⟩;obtain ⟨t,ht⟩:∃ t,t=au+s.half-st.length:=⟨_,rfl⟩;have hn:s.low+s.half-s.top=st.length:=by omega
 have cu:t+st.length=au+s.half:=by omega
 have E:Old h φ s.low s.free s.half st.length:=⟨fun a p hp=>by
  obtain ⟨nd,a1,a2,a3,_⟩:=R.nod a p hp;exact ⟨nd,a1,a2,a3⟩,R.dis,R.ok,R.fw,by omega,uM⟩
 have hv:(s.low=0/\au=s.half)\/(s.low=s.half/\au=0):=by omega
 have Fb:s.zbR={ s with low:=au,free:=au,top:=t,ws:=Go.splice s.ws t ((s.ws.drop s.top).take st.length) }:=by
  unfold Sto.zbR;simp only[hn];rw[<-xJ,<-ht]
 have aN:((s.ws.drop s.top).take st.length).length=st.length:=by rw[zzf,zzu];omega
 have ng:t+st.length<=s.ws.length:=by omega
 have aK:(Go.splice s.ws t ((s.ws.drop s.top).take st.length)).length=s.ws.length:=zzM _ _ _ (by rw[aN];exact ng);have aY:∀ j,(Go.splice s.ws t ((s.ws.drop s.top).take st.length))[j]?=if t<=j/\j<au+s.half then s.ws[s.top+(j-t)]? else s.ws[j]?:=by
  intro j;rw[zbu _ _ _ _ (by rw[aN];exact ng),aN];by_cases h1:j<t
  ·rw[if_pos h1,if_neg (by omega)]
  ·rw[if_neg h1];by_cases h2:j<t+st.length
   ·rw[if_pos h2,if_pos (by omega),zzy,if_pos (by omega),zzx]
   ·rw[if_neg h2,if_neg (by omega)]
 have G0:GI (Reach h st fns) h φ st s.low au s.half t { s with low:=au,free:=au,top:=t,ws:=Go.splice s.ws t ((s.ws.drop s.top).take st.length) } [] t au:=by
  refine ⟨rfl,rfl,rfl,hv,by simp only;omega,by simp only;omega,by simp[pos],cu,by simp,by simp,?_,by simp,by simp,?_,zyN _,by simp⟩
  ·intro a p hp _;obtain ⟨nd,a1,a2,a3,a4⟩:=R.nod a p hp;refine ⟨nd,a1,a4.congr (fun j j1 j2=>?_)⟩;simp only;rw[aY,if_neg (by omega)]
  ·intro i w hw;have br:=(zyL.1 hw).1;obtain ⟨x,x1,x2⟩:=R.stk i w hw;refine ⟨x,?_,by rw[if_neg (by omega)];exact x2⟩;simp only;rw[aY,if_pos (by omega),show s.top+(au+s.half-1-i-t)=s.low+s.half-1-i by omega];exact x1
 have DX:∀ (i a:Nat),st[i]?=some (.ad a)->Reach h st fns (can h a):=fun i a ha=>.stk ha
 obtain ⟨s1,D1,b1,G1⟩:=zgk E DX st.length t _ [] G0 cu (zyN _);obtain ⟨kd,s2,D2,b2,G2,f1,f2⟩:=znv E fc fns s1 ([]++D1) G1 R.fl R.fn (fun a ha=>Reach.fn ha);have xU:pos h au ([]++D1++D2) 0=au:=by simp[pos]
 have Ft:=G2.len;obtain ⟨s3,D3,b3,G3⟩:=zqQ E (fun c n f hc hn hf=>Reach.fld hc hn hf) (s2.ws.length+1) 0 s2 ([]++D1++D2) (by rw[xU];exact G2) (zy5 _) (by rw[xU];have:=(G2.zeP E).2.2;omega);rw[xU]at b3;obtain ⟨C,hC⟩:∃ C,C=[]++D1++D2++D3:=⟨_,rfl⟩;rw[<-hC]at G3;have nM:s.collect fc=some (kd,s3):=by
  unfold Sto.collect;rw[if_pos ⟨by omega,hlen,by omega,by omega⟩,Fb];simp only;rw[show au+s.half-t=st.length by omega,b1];simp only;rw[b2];simp only;rw[G2.lw,b3]
 obtain ⟨q1,q2,q3⟩:=G3.zeP E;have o9:∀ a p,phi h au C a=some p->∃ i n,C[i]?=some a/\p=pos h au C i/\h[a]?=some n/\zaV n=false:=by
  intro a p hp;unfold phi at hp;split at hp
  ·next hm=>
   cases hp;have lg:C[C.idxOf a]?=some a:=by rw[zyM (zzF hm),List.getElem_idxOf]
   obtain ⟨_,n,_,e2,e3⟩:=G3.cm a hm;exact ⟨_,n,lg,rfl,e2,e3⟩
  ·cases hp
 refine ⟨kd,s3,C,nM,?_,G3.hf,zli nM,G3.nd,G3.pc,?_,fun c hc=>?_⟩
 ·rw[G3.lw];refine ⟨by rw[G3.lw,G3.hf];omega,by rw[G3.hf];exact G3.len,G3.wl,by rw[G3.lw];exact q1,by rw[G3.tp];exact q2,by rw[G3.tp,G3.lw,G3.hf];exact cu,?_,f1,?_,?_,?_,R.ok,R.fw⟩
  ·intro i w hw;have br:=(zyL.1 hw).1;obtain ⟨x,x1,x2⟩:=G3.stk i w hw;rw[if_pos (by omega)]at x2;exact ⟨x,by rw[G3.lw,G3.hf];exact x1,x2⟩
  ·intro i a ha;obtain ⟨x,x1,x2⟩:=f2 i a ha;exact ⟨x,x1,by rw[hC];exact x2.app⟩
  ·intro a p hp;obtain ⟨i,n,e1,e2,e3,e4⟩:=o9 a p hp;obtain ⟨p1,p2⟩:=G3.zlI e1 e3;obtain ⟨_,n',_,g2,_,g4,g5⟩:=G3.new i a e1;rw[e3]at g2;cases g2;refine ⟨n,e3,by rw[G3.lw,e2];exact p1,by rw[e2];exact p2,.inr ⟨e4,by rw[e2];exact g4,fun v hv=>by rw[e2];exact g5 v hv,fun j f hf=>?_⟩⟩;obtain ⟨x,x1,x2⟩:=G3.fld i a n j f e1 e3 hf;have gT:=(zyL.1 hf).1;have fD:=zep n;rw[if_pos (by omega)]at x2;exact ⟨x,by rw[e2];exact x1,x2⟩
  ·intro a a' p p' n n' hp lu hn gw aH;obtain ⟨i,m,e1,e2,e3,e4⟩:=o9 a p hp;obtain ⟨i',m',oJ,DG,Gg,Gh⟩:=o9 a' p' lu;have EB:i≠i':=fun e=>by
    subst e;rw[e1]at oJ;cases oJ;exact aH rfl
   rw[e2,DG];rcases Nat.lt_or_gt_of_ne EB with aj|aj
   ·left;rw[<-zbB hn];exact zii e1 aj
   ·right;rw[<-zbB gw];exact zii oJ aj
 ·rw[G3.lw,G3.fr];unfold pos;rw[zz7]
 ·obtain ⟨_,n,_,e2,e3⟩:=G3.cm c hc;exact ⟨n,e2,e3⟩
structure Ma where
 h:List Nd
 st:List Wd
 fns:List Nat
 fuel:Nat
 next:Int
 below:Int
def Fits (hf:Nat) (A:Ma) (k:Nat):Prop:=∀ C:List Nat,C.Nodup->(∀ c∈C,Reach A.h A.st A.fns c)->(C.map (zkL A.h)).sum+A.st.length+k<=hf
open Classical in
def val (sl:List Nat):Nd->Prop
 |.num _=>True
 |.data _ _=>True
 |.clo b fs=>∃ n,sl[b]?=some n/\fs.length<n
 |_=>False
variable {sl:List Nat}
theorem zxZ(h:val sl n):zaV n=false:=by cases n <;> first|rfl|exact h.elim
structure MR (sl:List Nat) (hf:Nat) (m:MSt) (A:Ma) (φ:Nat->Option Nat):Prop where
 rel:Rel m.s m.fns A.h A.st A.fns φ
 half:m.s.half=hf
 fuel:m.o.fuel=A.fuel
 next:m.o.next=A.next
 below:m.o.below=A.below
 vi:∀ (a b:Nat),A.h[a]?=some (.fwd b)->∃ nd,A.h[b]?=some nd/\val sl nd
variable {s:Sto}{h:List Nd}{st:List Wd}{φ:Nat->Option Nat}{x:Int}{a:Nat}
theorem ztX(R:Rel s fc h st fns φ)(hr:Rf φ h x a):∃ p n,φ (can h a)=some p/\h[can h a]?=some n/\zaV n=false:=by
 obtain ⟨p,rfl,hp⟩:=hr;rcases hp with hp|⟨b,hb,hp⟩
 ·obtain ⟨n,hn,_,_,aV⟩:=R.nod a p hp;rcases aV with ⟨b,p',rfl,h2,_⟩|⟨h1,_⟩
  ·rw[zgl hn];obtain ⟨nd,g1,g2⟩:=R.fw a b hn;exact ⟨p',nd,h2,g1,g2⟩
  ·rw[zdc hn h1];exact ⟨p,n,hp,hn,h1⟩
 ·rw[zgl hb];obtain ⟨nd,g1,g2⟩:=R.fw a b hb;exact ⟨p,nd,hp,g1,g2⟩
theorem zjG(R:Rel s fc h st fns φ)(hc:Reach h st fns c):∃ p n,φ c=some p/\h[c]?=some n/\zaV n=false:=by
 induction hc with
 |stk hi=>
  obtain ⟨x,_,hr⟩:=R.stk _ _ hi;exact ztX R hr
 |fn ha=>
  obtain ⟨i,hi⟩:=List.mem_iff_getElem?.1 ha;obtain ⟨x,_,hr⟩:=R.fn i _ hi;exact ztX R hr
 |fld _ hn hf ih=>
  obtain ⟨p,n',e1,e2,e3⟩:=ih;rw[hn]at e2;cases e2;obtain ⟨n',g1,_,_,aV⟩:=R.nod _ p e1;rw[hn]at g1;cases g1;obtain ⟨i,hi⟩:=List.mem_iff_getElem?.1 hf;rcases aV with ⟨b,p',h1,_⟩|⟨_,_,_,h4⟩
  ·rw[h1]at e3;simp[zaV]at e3
  ·obtain ⟨x,_,hr⟩:=h4 i _ hi;exact ztX R hr
theorem zlJ(R:Rel s fc h st fns φ){C:List Nat}(hC:C.Nodup)(hr:∀ c∈C,Reach h st fns c):(C.map (zkL h)).sum<=s.free-s.low:=by
 have h1:=ztZ s.low s.free (C.map fun c=>((φ c).getD 0,zkL h c)) (fun x hx=>by
  obtain ⟨c,hc,rfl⟩:=zz1.1 hx;obtain ⟨p,n,e1,e2,_⟩:=zjG R (hr c hc);obtain ⟨n',e3,e4,e5,_⟩:=R.nod c p e1;rw[e2]at e3;cases e3;simp only[e1,zAs,zbB e2];exact ⟨e4,e5⟩) (by
  rw[List.pairwise_map];refine List.Pairwise.imp_of_mem (fun {a b} ha hb aH=>?_) hC;obtain ⟨p,n,e1,e2,_⟩:=zjG R (hr a ha);obtain ⟨p',n',e3,e4,_⟩:=zjG R (hr b hb);simp only[e1,e3,zAs,zbB e2,zbB e4];exact R.dis a b p p' n n' e1 e3 e2 e4 aH)
 rw[List.map_map]at h1;exact h1
variable {hf k:Nat}{m:MSt}{A:Ma}
theorem zvU(M:MR sl hf m A φ):
  (Fits hf A k/\∃ m' φ',m.zdI k=some (.ok m')/\MR sl hf m' A φ'/\m'.s.free+k<=m'.s.top/\m'.o=m.o)\/(¬ Fits hf A k/\m.zdI k=some (.error 4)):=by
 have uM:=M.rel.lf;have iY:=M.rel.ft;have fg:=M.rel.tp;have hh:=M.half;unfold MSt.zdI;by_cases hc:(k:Int)<=(m.s.top:Int)-(m.s.free:Int)
 ·rw[if_pos hc];left;refine ⟨fun C h1 h2=>?_,m,φ,rfl,M,by omega,rfl⟩;have:=zlJ M.rel h1 h2;omega
 ·rw[if_neg hc];obtain ⟨kd,s',C,c1,c2,c3,c4,c5,c6,c7,c8⟩:=zpj M.rel;rw[c1];simp only;have EP:=c2.lf;have Eu:=c2.ft;have Ff:=c2.tp;by_cases hd:(s'.top:Int)-(s'.free:Int)<(k:Int)
  ·rw[if_pos hd];right;refine ⟨fun aJ=>?_,rfl⟩;have:=aJ C c5 c6;omega
  ·rw[if_neg hd];left;refine ⟨fun C' h1 h2=>?_,_,phi A.h s'.low C,rfl,⟨c2,by simp only;omega,M.fuel,M.next,M.below,M.vi⟩,by simp only;omega,rfl⟩;have:=zlJ c2 h1 h2;omega
variable {s:Sto} {fc:List Int} {h:List Nd} {st:List Wd} {fns:List Nat} {φ:Nat->Option Nat}{ws':List Int}
theorem Rel.zeV(R:Rel s fc h st fns φ){top':Nat}{st':List Wd}(hl:ws'.length=s.ws.length)(hk:∀ j,s.low<=j->j<s.free->ws'[j]?=s.ws[j]?)(iY:s.free<=top')(fg:top'+st'.length=s.low+s.half)(dY:∀ (i:Nat) (w:Wd),st'[i]?=some w->∃ x,ws'[s.low+s.half-1-i]?=some x/\RW φ h x w):Rel { s with ws:=ws',top:=top' } fc h st' fns φ:=by
 refine ⟨R.low,by simp only;rw[hl];exact R.len,by simp only;rw[hl];exact R.wl,R.lf,iY,fg,dY,R.fl,R.fn,?_,R.dis,R.ok,R.fw⟩;intro a p hp;obtain ⟨nd,h1,h2,h3,h4⟩:=R.nod a p hp;exact ⟨nd,h1,h2,h3,h4.congr (fun j j1 j2=>hk j (by omega) (by omega))⟩
variable {φ':Nat->Option Nat}{h':List Nd}
theorem Rf.mono(h1:∀ a p,φ a=some p->φ' a=some p)(h2:∀ (a b:Nat),h[a]?=some (.fwd b)->h'[a]?=some (.fwd b))(hr:Rf φ h x a):Rf φ' h' x a:=by
 obtain ⟨p,e,hp⟩:=hr;refine ⟨p,e,?_⟩;rcases hp with hp|⟨b,hb,hp⟩
 ·exact .inl (h1 a p hp)
 ·exact .inr ⟨b,h2 a b hb,h1 b p hp⟩
theorem RW.mono{φ φ':Nat->Option Nat}{h h':List Nd}(h1:∀ a p,φ a=some p->φ' a=some p)(h2:∀ (a b:Nat),h[a]?=some (.fwd b)->h'[a]?=some (.fwd b)){x:Int}{w:Wd}(hr:RW φ h x w):RW φ' h' x w:=by
 cases w with
 |ad a=>exact Rf.mono h1 h2 hr
 |mk k b=>exact hr
theorem At.mono{ws:List Int}{φ φ':Nat->Option Nat}{h h':List Nd}(h1:∀ a p,φ a=some p->φ' a=some p)(h2:∀ (a b:Nat),h[a]?=some (.fwd b)->h'[a]?=some (.fwd b)){p:Nat}{nd:Nd}(ha:At ws φ h p nd):At ws φ' h' p nd:=by
 rcases ha with ⟨b,p',e1,e2,e3⟩|⟨e1,e2,e3,e4⟩
 ·exact .inl ⟨b,p',e1,h1 b p' e2,e3⟩
 ·refine .inr ⟨e1,e2,e3,fun i f hf=>?_⟩;obtain ⟨x,x1,x2⟩:=e4 i f hf;exact ⟨x,x1,x2.mono h1 h2⟩
def grow (φ:Nat->Option Nat) (n p:Nat):Nat->Option Nat:=fun a=>if a=n then some p else φ a
theorem Rel.grown(R:Rel s fc h st fns φ)(p:Nat):∀ a q,φ a=some q->grow φ h.length p a=some q:=by
 intro a q hq;obtain ⟨nd,h1,_⟩:=R.nod a q hq;have:=(zyL.1 h1).1;unfold grow;rw[if_neg (by omega)];exact hq
variable {nd:Nd}
theorem zhE :∀ (a b:Nat),h[a]?=some (.fwd b)->(h++[nd])[a]?=some (.fwd b):=by
 intro a b hb;rw[zzc (zyL.1 hb).1];exact hb
theorem Rel.alloc(R:Rel s fc h st fns φ)(bU:zo6 nd)(hf:zaV nd=false)(ew:s.free+sz nd<=s.top)(hl:ws'.length=s.ws.length)(hk:∀ j,(j<s.free\/s.free+sz nd<=j)->ws'[j]?=s.ws[j]?)(aV:AtC ws' (Rf (grow φ h.length s.free) (h++[nd])) s.free nd):Rel { s with ws:=ws',free:=s.free+sz nd } fc (h++[nd]) st fns (grow φ h.length s.free):=by
 have hg:=R.grown s.free;have gU:(h++[nd])[h.length]?=some nd:=by simp
 have fg:=R.tp;have jE:∀ a p,grow φ h.length s.free a=some p->(a=h.length/\p=s.free)\/φ a=some p:=by
  intro a p hp;unfold grow at hp;split at hp
  ·next e=>cases hp;exact .inl ⟨e,rfl⟩
  ·exact .inr hp
 have hold:∀ (a:Nat) (n:Nd),(h++[nd])[a]?=some n->(a=h.length/\n=nd)\/h[a]?=some n:=by
  intro a n hn;rw[zzj]at hn;split at hn
  ·exact .inr hn
  ·next nO=>
   have:=(zyL.1 hn).1;simp at this;have h1:a-h.length=0:=by omega
   rw[h1]at hn;simp at hn;exact .inl ⟨by omega,hn.symm⟩
 refine ⟨R.low,by simp only;rw[hl];exact R.len,by simp only;rw[hl];exact R.wl,by simp only;have:=R.lf;omega,ew,R.tp,?_,R.fl,?_,?_,?_,?_,?_⟩
 ·intro i w hw;have br:=(zyL.1 hw).1;obtain ⟨x,x1,x2⟩:=R.stk i w hw;exact ⟨x,by simp only;rw[hk _ (by omega)];exact x1,x2.mono hg zhE⟩
 ·intro i a ha;obtain ⟨x,x1,x2⟩:=R.fn i a ha;exact ⟨x,x1,x2.mono hg zhE⟩
 ·intro a p hp;rcases jE a p hp with ⟨rfl,rfl⟩|hp
  ·exact ⟨nd,gU,R.lf,zyN _,.inr ⟨hf,aV⟩⟩
  ·obtain ⟨n,h1,h2,h3,h4⟩:=R.nod a p hp;refine ⟨n,by rw[zzc (zyL.1 h1).1];exact h1,h2,by simp only;omega,?_⟩;exact (h4.congr (fun j j1 j2=>hk j (by omega))).mono hg zhE
 ·intro a a' p p' n n' hp lu hn gw aH;rcases jE a p hp with ⟨rfl,rfl⟩|hp
  ·rcases jE a' p' lu with ⟨rfl,rfl⟩|lu
   ·exact absurd rfl aH
   ·obtain ⟨m,h1,h2,h3,h4⟩:=R.nod a' p' lu;rcases hold a' n' gw with ⟨e,_⟩|gw
    ·exact absurd e.symm aH
    ·rw[h1]at gw;cases gw;exact .inr h3
  ·obtain ⟨m,h1,h2,h3,h4⟩:=R.nod a p hp;rcases hold a n hn with ⟨e,_⟩|hn
   ·have:=(zyL.1 h1).1;omega
   ·rw[h1]at hn;cases hn;rcases jE a' p' lu with ⟨rfl,rfl⟩|lu
    ·exact .inl h3
    ·rcases hold a' n' gw with ⟨e,_⟩|gw
     ·obtain ⟨m',g1,_⟩:=R.nod a' p' lu;have:=(zyL.1 g1).1;omega
     ·exact R.dis a a' p p' n n' hp lu h1 gw aH
 ·intro a n hn;rcases hold a n hn with ⟨_,rfl⟩|hn
  ·exact bU
  ·exact R.ok a n hn
 ·intro a b hb;rcases hold a _ hb with ⟨_,e⟩|hb
  ·rw[<-e]at hf;simp[zaV]at hf
  ·obtain ⟨m,g1,g2⟩:=R.fw a b hb;exact ⟨m,by rw[zzc (zyL.1 g1).1];exact g1,g2⟩
variable {p:Nat}
theorem Rel.zxM(R:Rel s fc h st fns φ){nd':Nd}(hp:φ a=some p)(hn:h[a]?=some nd)(jZ:zaV nd=false)(bU:zo6 nd')(hs:sz nd'<=sz nd)(hl:ws'.length=s.ws.length)(hk:∀ j,(j<p\/p+sz nd<=j)->ws'[j]?=s.ws[j]?)(aV:At ws' φ (h.set a nd') p nd')(gr:zaV nd'=true->∀ (x b:Nat),h[x]?=some (.fwd b)->b≠a)(xA:∀ b,nd'=.fwd b->b≠a/\∃ n,h[b]?=some n/\zaV n=false):Rel { s with ws:=ws' } fc (h.set a nd') st fns φ:=by
 have aU:=(zyL.1 hn).1;have fg:=R.tp;have iY:=R.ft;obtain ⟨GU,q1,q2,q3,q4⟩:=R.nod a p hp;rw[hn]at q1;cases q1;have dC:∀ (c b:Nat),h[c]?=some (.fwd b)->(h.set a nd')[c]?=some (.fwd b):=by
  intro c b hb;rw[zyV,if_neg (fun e=>by subst e;rw[hn]at hb;cases hb;simp[zaV]at jZ)];exact hb
 have aY:∀ (c:Nat) (n:Nd),(h.set a nd')[c]?=some n->(c=a/\n=nd')\/(c≠a/\h[c]?=some n):=by
  intro c n hc;rw[zyV]at hc;by_cases e:a=c
  ·rw[if_pos e,if_pos aU]at hc;cases hc;exact .inl ⟨e.symm,rfl⟩
  ·rw[if_neg e]at hc;exact .inr ⟨fun x=>e x.symm,hc⟩
 have hm:∀ c q,φ c=some q->φ c=some q:=fun _ _ x=>x
 refine ⟨R.low,by simp only;rw[hl];exact R.len,by simp only;rw[hl];exact R.wl,R.lf,R.ft,R.tp,?_,R.fl,?_,?_,?_,?_,?_⟩
 ·intro i w hw;have br:=(zyL.1 hw).1;obtain ⟨x,x1,x2⟩:=R.stk i w hw;exact ⟨x,by simp only;rw[hk _ (by omega)];exact x1,x2.mono hm dC⟩
 ·intro i c hc;obtain ⟨x,x1,x2⟩:=R.fn i c hc;exact ⟨x,x1,x2.mono hm dC⟩
 ·intro c q hq;by_cases e:c=a
  ·subst e;rw[hp]at hq;cases hq;exact ⟨nd',by rw[zyV,if_pos rfl,if_pos aU],q2,by simp only;omega,aV⟩
  ·obtain ⟨n,h1,h2,h3,h4⟩:=R.nod c q hq;have hd:=R.dis c a q p n nd hq hp h1 hn e;refine ⟨n,by rw[zyV,if_neg (fun x=>e x.symm)];exact h1,h2,h3,(h4.congr (fun j j1 j2=>hk j (by omega))).mono hm dC⟩
 ·intro c c' q q' n n' hq lx hc eV aH;rcases aY c n hc with ⟨e1,e2⟩|⟨e,bH⟩
  ·subst e1 e2;rcases aY c' n' eV with ⟨e3,_⟩|⟨e',bT⟩
   ·exact absurd e3.symm aH
   ·have h9:=R.dis c c' q q' nd n' hq lx hn bT aH;rw[hp]at hq;cases hq;omega
  ·rcases aY c' n' eV with ⟨e3,e4⟩|⟨e',bT⟩
   ·subst e3 e4;have h9:=R.dis c c' q q' n nd hq lx bH hn aH;omega
   ·exact R.dis c c' q q' n n' hq lx bH bT aH
 ·intro c n hc;rcases aY c n hc with ⟨_,rfl⟩|⟨_,hc⟩
  ·exact bU
  ·exact R.ok c n hc
 ·intro c b hb;rcases aY c _ hb with ⟨_,e⟩|⟨_,aA⟩
  ·obtain ⟨h1,n,h2,h3⟩:=xA b e.symm;exact ⟨n,by rw[zyV,if_neg (fun x=>h1 x.symm)];exact h2,h3⟩
  ·obtain ⟨n,h2,h3⟩:=R.fw c b aA;by_cases e:b=a
   ·refine ⟨nd',by rw[e,zyV,if_pos rfl,if_pos aU],?_⟩;cases hx:zaV nd' with
    |false=>rfl
    |true=>exact absurd e (gr hx c b aA)
   ·exact ⟨n,by rw[zyV,if_neg (fun x=>e x.symm)];exact h2,h3⟩
variable {s:Sto} {fc:List Int} {h:List Nd} {st:List Wd} {fns:List Nat} {φ:Nat->Option Nat}
theorem Rel.hi(R:Rel s fc h st fns φ):s.low+s.half<=s.ws.length:=by
 have h1:=R.low;have h2:=R.len;omega
theorem Rel.word(R:Rel s fc h st fns φ){d:Nat}(hd:d<st.length):∃ w x,st[st.length-1-d]?=some w/\s.ws[s.top+d]?=some x/\RW φ h x w:=by
 have fg:=R.tp;obtain ⟨w,hw⟩:∃ w,st[st.length-1-d]?=some w:=⟨_,zyM (by omega)⟩;obtain ⟨x,x1,x2⟩:=R.stk _ w hw;rw[show s.low+s.half-1-(st.length-1-d)=s.top+d by omega]at x1;exact ⟨w,x,hw,x1,x2⟩
variable {w:Wd}
theorem zc5(R:Rel s fc h st fns φ)(ew:s.free+1<=s.top)(hw:RW φ h x w):s.push x=some { s with top:=s.top-1,ws:=s.ws.set (s.top-1) x }/\Rel { s with top:=s.top-1,ws:=s.ws.set (s.top-1) x } fc h (st++[w]) fns φ:=by
 have fg:=R.tp;have gS:=R.hi;refine ⟨?_,?_⟩
 ·unfold Sto.push;rw[if_pos (by omega)]
 ·refine R.zeV (ws':=s.ws.set (s.top-1) x) (top':=s.top-1) (by simp) (fun j h1 h2=>by rw[zyV,if_neg (by omega)]) (by omega) (by simp;omega) (fun i w' fY=>?_);rw[zzj]at fY;split at fY
  ·next br=>
   obtain ⟨y,y1,y2⟩:=R.stk i w' fY;exact ⟨y,by rw[zyV,if_neg (by omega)];exact y1,y2⟩
  ·next br=>
   have:=(zyL.1 fY).1;simp at this;have h1:i-st.length=0:=by omega
   rw[h1]at fY;simp at fY;subst fY;refine ⟨x,?_,hw⟩;rw[show s.low+s.half-1-i=s.top-1 by omega,zyV,if_pos rfl,if_pos (by omega)]
theorem zhQ(R:Rel s fc h st fns φ)(hc:c<=st.length):s.pop c=some { s with top:=s.top+c }/\Rel { s with top:=s.top+c } fc h (st.take (st.length-c)) fns φ:=by
 have fg:=R.tp;have gS:=R.hi;have eE:=R.wl;have iY:=R.ft;refine ⟨?_,?_⟩
 ·unfold Sto.pop;rw[if_pos (by omega)]
 ·refine R.zeV (ws':=s.ws) (top':=s.top+c) rfl (fun j _ _=>rfl) (by omega) (by rw[zzf];omega) (fun i w hw=>?_);rw[zzy]at hw;split at hw
  ·exact R.stk i w hw
  ·cases hw
theorem zmy(R:Rel s fc h st fns φ){xs:List Int}(bU:zo6 nd)(hf:zaV nd=false)(ew:s.free+sz nd<=s.top)(dk:xs.length+1=sz nd)(xS:∀ v,nd=.num v->xs[0]?=some v)(bZ:∀ (i f:Nat),(zdd nd)[i]?=some f->∃ x,xs[i]?=some x/\Rf (grow φ h.length s.free) (h++[nd]) x f):
  s.node (hdr nd) xs=some { s with free:=s.free+sz nd,ws:=Go.splice (s.ws.set s.free (hdr nd)) (s.free+1) xs }/\Rel { s with free:=s.free+sz nd,ws:=Go.splice (s.ws.set s.free (hdr nd)) (s.free+1) xs } fc (h++[nd]) st fns (grow φ h.length s.free):=by
 have fg:=R.tp;have gS:=R.hi;have aK:(Go.splice (s.ws.set s.free (hdr nd)) (s.free+1) xs).length=s.ws.length:=by rw[zzM _ _ _ (by rw[zy6];omega),zy6]
 have aY:∀ j,(Go.splice (s.ws.set s.free (hdr nd)) (s.free+1) xs)[j]?=if j=s.free then some (hdr nd) else if s.free<j/\j<s.free+sz nd then xs[j-(s.free+1)]? else s.ws[j]?:=by
  intro j;rw[zbu _ _ _ _ (by rw[zy6];omega)];by_cases h1:j=s.free
  ·rw[if_pos (by omega),if_pos h1,h1,zyV,if_pos rfl,if_pos (by omega)]
  ·have cS:(s.ws.set s.free (hdr nd))[j]?=s.ws[j]?:=by rw[zyV,if_neg (fun e=>h1 e.symm)]
   rw[if_neg h1];by_cases h2:j<s.free+1
   ·rw[if_pos h2,if_neg (by omega),cS]
   ·rw[if_neg h2];by_cases h3:j<s.free+1+xs.length
    ·rw[if_pos h3,if_pos (by omega)]
    ·rw[if_neg h3,if_neg (by omega),cS]
 have hs:=zhd nd;refine ⟨?_,?_⟩
 ·unfold Sto.node;rw[if_pos (by omega)];congr 2;omega
 ·refine R.alloc bU hf ew aK (fun j hj=>by rw[aY,if_neg (by omega),if_neg (by omega)]) ⟨by rw[aY,if_pos rfl],fun v hv=>?_,fun i f hf=>?_⟩
  ·have h2:sz nd=2:=by rw[hv];rfl
   rw[aY,if_neg (by omega),if_pos (by omega),show s.free+1-(s.free+1)=0 by omega];exact xS v hv
  ·obtain ⟨x,x1,x2⟩:=bZ i f hf;have:=(zyL.1 x1).1;exact ⟨x,by rw[aY,if_neg (by omega),if_pos (by omega),show s.free+1+i-(s.free+1)=i by omega];exact x1,x2⟩
def zwL:List Wd->Option (List Nat)
 |[]=>some []
 |.ad a::l=>(zwL l).map (a::·)
 |.mk _ _::_=>none
theorem zqg:∀ {l:List Wd} {fs:List Nat},zwL l=some fs->fs.length=l.length/\∀ (i f:Nat),fs[i]?=some f->l[i]?=some (.ad f)
 |[],fs,h=>by simp[zwL]at h;subst h;simp
 |.ad a::l,fs,h=>by
  rw[zwL]at h;simp only[zyX]at h;obtain ⟨r,h1,rfl⟩:=h;obtain ⟨e1,e2⟩:=zqg h1;refine ⟨by simp[e1],fun i f hf=>?_⟩;cases i with
  |zero=>simp at hf;simp[hf]
  |succ i=>simpa using e2 i f (by simpa using hf)
 |.mk _ _::l,fs,h=>by simp[zwL]at h
def zlT (st:List Wd) (c:Nat):Option (List Nat):=if c<=st.length then zwL (st.drop (st.length-c)).reverse else none
variable {fs:List Nat}
theorem ziX(ht:zlT st c=some fs):c<=st.length/\fs.length=c/\∀ (i f:Nat),fs[i]?=some f->st[st.length-1-i]?=some (.ad f):=by
 unfold zlT at ht;split at ht
 ·next hc=>
  obtain ⟨e1,e2⟩:=zqg ht;have hl:fs.length=c:=by rw[e1];simp;omega
  refine ⟨hc,hl,fun i f hf=>?_⟩;have br:=(zyL.1 hf).1;have:=e2 i f hf;rw[List.getElem?_reverse (by simp;omega),zzx]at this;rw[<-this];congr 1;simp;omega
 ·cases ht
theorem Rel.zlT(R:Rel s fc h st fns φ){c:Nat}{fs:List Nat}(ht:zlT st c=some fs):(s.words s.top c).length=c/\∀ (i f:Nat),fs[i]?=some f->∃ x,(s.words s.top c)[i]?=some x/\Rf φ h x f:=by
 obtain ⟨h1,h2,h3⟩:=ziX ht;have fg:=R.tp;have gS:=R.hi;unfold Sto.words;refine ⟨by rw[zzf,zzu];omega,fun i f hf=>?_⟩;have br:=(zyL.1 hf).1;obtain ⟨w,x,w1,w2,w3⟩:=R.word (d:=i) (by omega);rw[h3 i f hf]at w1;cases w1;exact ⟨x,by rw[zzy,if_pos (by omega),zzx];exact w2,w3⟩
theorem Rel.zfo(R:Rel s fc h st fns φ)(hr:Rf φ h x a)(hn:h[a]?=some nd)(hf:zaV nd=false):∃ p:Nat,x=p/\φ a=some p/\s.low<=p/\p+sz nd<=s.free/\AtC s.ws (Rf φ h) p nd:=by
 obtain ⟨p,rfl,hp⟩:=hr;rcases hp with hp|⟨b,hb,_⟩
 ·obtain ⟨n,h1,h2,h3,h4⟩:=R.nod a p hp;rw[hn]at h1;cases h1;rcases h4 with ⟨b,p',e,_⟩|⟨_,h5⟩
  ·rw[e]at hf;simp[zaV]at hf
  ·exact ⟨p,rfl,hp,h2,h3,h5⟩
 ·rw[hn]at hb;cases hb;simp[zaV]at hf
theorem AtC.head{ws:List Int}{ρ:Int->Nat->Prop}{p:Nat}{nd:Nd}(h:AtC ws ρ p nd)(bU:zo6 nd){s:Sto}(hw:s.ws=ws):s.head p=some (hdr nd):=by
 obtain ⟨r1,r2⟩:=zde bU;unfold Sto.head;rw[hw,h.1];simp only;rw[if_neg (by omega)]
theorem AtC.fields{ρ:Int->Nat->Prop}(h:AtC s.ws ρ p nd)(hl:p+1+(zdd nd).length<=s.ws.length):(s.words (p+1) (zdd nd).length).length=(zdd nd).length/\∀ (i f:Nat),(zdd nd)[i]?=some f->∃ x,(s.words (p+1) (zdd nd).length)[i]?=some x/\ρ x f:=by
 unfold Sto.words;refine ⟨by rw[zzf,zzu];omega,fun i f hf=>?_⟩;have br:=(zyL.1 hf).1;obtain ⟨x,x1,x2⟩:=h.2.2 i f hf;exact ⟨x,by rw[zzy,if_pos (by omega),zzx];exact x1,x2⟩
theorem zgq(R:Rel s fc h st fns φ){xs:List Int}(hl:xs.length=fs.length)(ew:s.free+xs.length<=s.top)(hx:∀ (i f:Nat),fs[i]?=some f->∃ x,xs[i]?=some x/\Rf φ h x f):
  s.zek xs=some { s with top:=s.top-xs.length,ws:=Go.splice s.ws (s.top-xs.length) xs }/\Rel { s with top:=s.top-xs.length,ws:=Go.splice s.ws (s.top-xs.length) xs } fc h (st++(fs.map Wd.ad).reverse) fns φ:=by
 have fg:=R.tp;have gS:=R.hi;refine ⟨?_,?_⟩
 ·unfold Sto.zek;rw[if_pos (by omega)]
 ·refine R.zeV (ws':=Go.splice s.ws (s.top-xs.length) xs) (top':=s.top-xs.length) (zzM _ _ _ (by omega)) (fun j h1 h2=>by rw[zbu _ _ _ _ (by omega),if_pos (by omega)]) (by omega) (by simp;omega) (fun i w hw=>?_);rw[zbu _ _ _ _ (by omega)];rw[zzj]at hw;split at hw
  ·next br=>
   obtain ⟨y,y1,y2⟩:=R.stk i w hw;exact ⟨y,by rw[if_neg (by omega),if_neg (by omega)];exact y1,y2⟩
  ·next br=>
   have aj:=(zyL.1 hw).1;simp at aj;rw[List.getElem?_reverse (by simp;omega)]at hw;simp only[List.length_map,List.getElem?_map,zyX]at hw;obtain ⟨f,hf,rfl⟩:=hw;obtain ⟨x,x1,x2⟩:=hx _ f hf;refine ⟨x,?_,x2⟩;rw[if_neg (by omega),if_pos (by omega),show s.low+s.half-1-i-(s.top-xs.length)=fs.length-1-(i-st.length) by omega];exact x1
end Ab
end Go.Proofs.YtgahgkddaljmkaaGreatDoor
namespace Go.Proofs.YtgahgkddaljmkaaGreatDoor
open Tryz
namespace Ab
open Classical in
noncomputable def ask (hf k:Nat) (A:Ma) (f:Ma->Option (Except Nat Ma)):Option (Except Nat Ma):=if Fits hf A k then f A else some (.error 4)
def zcE (st:List Wd) (c:Nat):List Wd:=st.take (st.length-c)
def okA (A:Ma):Option (Except Nat Ma):=some (.ok A)
noncomputable def Ma.zau (hf:Nat) (v:Int) (A:Ma):Option (Except Nat Ma):=ask hf 3 A fun A=>okA { A with h:=A.h++[.num v],st:=A.st++[.ad A.h.length] }
noncomputable def Ma.mkN (hf:Nat) (nd:List Nat->Nd) (c:Nat) (A:Ma):Option (Except Nat Ma):=ask hf (c+2) A fun A=>
 match zlT A.st c with
 |none=>none
 |some fs=>okA { A with h:=A.h++[nd fs],st:=zcE A.st c++[.ad A.h.length] }
noncomputable def Ma.zn5 (hf t c:Nat) (A:Ma):Option (Except Nat Ma):=if t<=1000000000/\c<4096 then A.mkN hf (.data t) c else none
noncomputable def Ma.zpH (hf b c:Nat) (A:Ma):Option (Except Nat Ma):=if b<=1000000000/\c<4096 then A.mkN hf (.clo b) c else none
noncomputable def Ma.hold (hf b c:Nat) (A:Ma):Option (Except Nat Ma):=if b<=1000000000/\c<4096 then ask hf (c+2) A fun A=>okA { A with h:=A.h++[.clo b (List.replicate c A.h.length)],st:=A.st++[.ad A.h.length] } else none
noncomputable def Ma.zjF (hf:Nat) (w:Ma->Option Wd) (A:Ma):Option (Except Nat Ma):=ask hf 1 A fun A=>
 match w A with
 |none=>none
 |some w=>okA { A with st:=A.st++[w] }
def Ma.slot (A:Ma) (k:Nat):Option Wd:=if 0<=A.below then A.st[A.below.toNat+k]? else none
def Ma.fill (k c:Nat) (A:Ma):Option (Except Nat Ma):=
 match A.slot k with
 |some (.ad a)=>
  match A.h[a]? with
  |some (.clo b fs)=>if fs.length=c then (match zlT A.st c with|none=>none|some gs=>okA { A with h:=A.h.set a (.clo b gs),st:=zcE A.st c }) else none
  |_=>none
 |_=>none
def Ma.zci (c:Nat) (A:Ma):Option Ma:=if 0<=A.below/\A.below.toNat+c<=A.st.length then some { A with st:=A.st.take A.below.toNat++A.st.drop (A.st.length-c) } else none
def Ma.zdW (A:Ma) (d:Nat):Option (Except Nat Int):=
 if d<A.st.length then
  match A.st[A.st.length-1-d]? with
  |some (.ad a)=>
   match A.h[a]? with
   |some (.num v)=>some (.ok v)
   |some (.data _ _)=>some (.error 3)
   |some (.clo _ _)=>some (.error 3)
   |_=>none
  |_=>none
 else none
noncomputable def Ma.zww (hf:Nat) (b:Bool) (A:Ma):Option (Except Nat Ma):=A.mkN hf (fun _=>.data (if b then 2 else 1) []) 0
noncomputable def Ma.calc (hf:Nat) (sg:ByteArray) (l r:Int) (A:Ma):Option (Except Nat Ma):=
 if sg=⟨#[43]⟩ then A.zau hf (IntKind.i64.wrap (l+r)) else
 if sg=⟨#[45]⟩ then A.zau hf (IntKind.i64.wrap (l-r)) else
 if sg=⟨#[42]⟩ then A.zau hf (IntKind.i64.wrap (l*r)) else
 if sg=⟨#[47]⟩ then (if r=0 then some (.error 3) else A.zau hf (IntKind.i64.wrap (Int.tdiv l r))) else
 if sg=⟨#[60]⟩ then A.zww hf (decide (l<r)) else
 if sg=⟨#[61,61]⟩ then A.zww hf (decide (l=r)) else none
noncomputable def Ma.compute (hf:Nat) (sg:ByteArray) (A:Ma):Option (Except Nat Ma):=
 match A.zdW 0 with
 |none=>none
 |some (.error k)=>some (.error k)
 |some (.ok r)=>
  match A.zdW 1 with
  |none=>none
  |some (.error k)=>some (.error k)
  |some (.ok l)=>Ma.calc hf sg l r { A with st:=zcE A.st 2 }
noncomputable def Ma.zdy (hf a b:Nat) (fs:List Nat) (A:Ma):Option (Except Nat Ma):=ask hf (1+fs.length) A fun A=>okA { A with h:=A.h.set a .busy,st:=A.st++[.mk 0 0]++(fs.map Wd.ad).reverse,next:=b }
noncomputable def Ma.extend (hf b c:Nat) (fs:List Nat) (A:Ma):Option (Except Nat Ma):=ask hf (1+fs.length+c) A fun A=>
 if fs.length+c<4096/\1<=c then
  match zlT (zcE A.st 2) c with
  |none=>none
  |some gs=>okA { A with h:=A.h++[.clo b (fs++gs)],st:=zcE A.st (2+c)++[.ad A.h.length] }
 else none
def leave (st:List Wd) (lk lf:Nat):List Wd:=if lf=0 then st else st.take (st.length-lk)++[.mk 2 lf]++st.drop (st.length-lk)
noncomputable def Ma.call (hf b lk lf:Nat) (fs:List Nat) (A:Ma):Option (Except Nat Ma):=ask hf fs.length A fun A=>
 if 2+lk<=A.st.length/\lf<=1000000 then okA { A with st:=leave (zcE A.st 2) lk lf++(fs.map Wd.ad).reverse,next:=b } else none
noncomputable def Ma.za5 (hf:Nat) (sl:List Nat) (c:Nat) (A:Ma):Option (Except Nat (Bool × Ma)):=
 match A.st.getLast? with
 |some (.ad a)=>
  match A.h[a]? with
  |some (.num _)=>some (.error 3)
  |some (.data _ _)=>some (.error 3)
  |some (.clo b fs)=>
   match sl[b]? with
   |none=>none
   |some n=>if n<fs.length then none else
    if c<n-fs.length then (match A.extend hf b c fs with|none=>none|some (.error k)=>some (.error k)|some (.ok A')=>some (.ok (false,A')))
    else if 2000000<c then none
    else (match A.call hf b (n-fs.length) (c-(n-fs.length)) fs with|none=>none|some (.error k)=>some (.error k)|some (.ok A')=>some (.ok (true,A')))
  |_=>none
 |_=>none
noncomputable def Ma.za1 (hf:Nat) (sl:List Nat):Nat->Ma->Option (Except Nat Ma)
 |0,_=>none
 |g+1,A=>
  if A.st.length<=1 then okA { A with next:=-1 } else
  match A.st[A.st.length-2]? with
  |some (.mk k b)=>
   if 1000000000<=b then none else
   if k=0 then
    match A.st[A.st.length-1]? with
    |some (.ad v)=>
     if 3<=A.st.length then
     match A.st[A.st.length-3]? with
     |some (.ad c)=>
      match A.h[c]?,A.h[v]? with
      |some .busy,some (.num _)=>Ma.za1 hf sl g { A with h:=A.h.set c (.fwd v),st:=zcE A.st 3++[.ad v] }
      |some .busy,some (.data _ _)=>Ma.za1 hf sl g { A with h:=A.h.set c (.fwd v),st:=zcE A.st 3++[.ad v] }
      |some .busy,some (.clo b fs)=>if (∃ n,sl[b]?=some n/\fs.length<n) then Ma.za1 hf sl g { A with h:=A.h.set c (.fwd v),st:=zcE A.st 3++[.ad v] } else none
      |_,_=>none
     |_=>none
     else none
    |_=>none
   else if k=1 then
    match A.st[A.st.length-1]? with
    |some (.ad v)=>okA { A with st:=zcE A.st 2++[.ad v],next:=b }
    |_=>none
   else if k=2 then
    match A.za5 hf sl b with
    |none=>none
    |some (.error j)=>some (.error j)
    |some (.ok q)=>if q.1=true then okA q.2 else Ma.za1 hf sl g q.2
   else none
  |_=>none
noncomputable def Ma.enter (hf:Nat) (sl:List Nat) (A:Ma):Option (Except Nat Ma):=
 match A.st.getLast? with
 |some (.ad a)=>
  let A1:Ma:={ A with st:=zcE A.st 1++[.ad (can A.h a)] }
  match A.h[can A.h a]? with
  |some .busy=>some (.error 5)
  |some (.num _)=>A1.za1 hf sl (A.st.length+1)
  |some (.data _ _)=>A1.za1 hf sl (A.st.length+1)
  |some (.clo b fs)=>
   match sl[b]? with
   |none=>none
   |some n=>if n=fs.length then A1.zdy hf (can A.h a) b fs else if fs.length<n then A1.za1 hf sl (A.st.length+1) else none
  |_=>none
 |_=>none
noncomputable def Ma.zcc (hf t:Nat) (fs:List Nat) (A:Ma):List (Nat × Nat × Nat)->Option (Except Nat Ma)
 |[]=>some (.error 3)
 |(u,c,b)::l=>if u=t then (if c=fs.length then ask hf c A fun A=>okA { A with st:=zcE A.st 1++(fs.map Wd.ad).reverse,next:=b } else some (.error 3)) else Ma.zcc hf t fs A l
noncomputable def Ma.choose (hf:Nat) (zao:List (Nat × Nat × Nat)) (A:Ma):Option (Except Nat Ma):=
 match A.st.getLast? with
 |some (.ad a)=>
  match A.h[a]? with
  |some (.data t fs)=>A.zcc hf t fs zao
  |some (.num _)=>some (.error 3)
  |some (.clo _ _)=>some (.error 3)
  |_=>none
 |_=>none
noncomputable def Ma.step (hf:Nat) (sl:List Nat) (A:Ma):Ins->Option (Except Nat Ma)
 |.push k=>A.zjF hf fun A=>A.slot k
 |.zcW f=>A.zjF hf fun A=>(A.fns[f]?).map Wd.ad
 |.num x=>A.zau hf x
 |.pack t c=>A.zn5 hf t c
 |.close b c=>A.zpH hf b c
 |.hold b c=>A.hold hf b c
 |.fill k c=>A.fill k c
 |.wait b=>if b<=1000000000 then A.zjF hf fun _=>some (.mk 1 b) else none
 |.zbF c=>if c<=1000000000 then A.zjF hf fun _=>some (.mk 2 c) else none
 |.zci c=>(A.zci c).map .ok
 |.zbX=>(A.zdW 0).map fun q=>q.map fun _=>A
 |.comp sg=>A.compute hf sg
 |.enter=>A.enter hf sl
 |.jump b=>okA { A with next:=b }
 |.choose zao=>A.choose hf zao
noncomputable def Ma.zbb (hf:Nat) (sl:List Nat):List Ins->Ma->Option (Except Nat Ma)
 |[],A=>okA A
 |i::l,A=>if A.fuel=0 then some (.error 5) else
  match Ma.step hf sl { A with fuel:=A.fuel-1 } i with
  |none=>none
  |some (.error k)=>some (.error k)
  |some (.ok A2)=>Ma.zbb hf sl l A2
noncomputable def Ma.work (hf:Nat) (cd:List (Nat × List Ins)):Nat->Ma->Option (Except Nat Ma)
 |0,_=>none
 |g+1,A=>
  if A.next=-1 then okA A else
  if A.next<0 then none else
  match cd[A.next.toNat]? with
  |none=>none
  |some (n,is)=>
   match Ma.zbb hf (cd.map Prod.fst) is { A with below:=(A.st.length:Int)-n } with
   |none=>none
   |some (.error k)=>some (.error k)
   |some (.ok A2)=>Ma.work hf cd g A2
noncomputable def Ma.zbm (hf:Nat):Nat->Nat->Ma->Option (Except Nat Ma)
 |_,0,A=>okA A
 |i,k+1,A=>if i<=1000000000 then ask hf 1 A fun A=>Ma.zbm hf (i+1) k { A with h:=A.h++[.clo i []],fns:=A.fns++[A.h.length] } else none
noncomputable def Ma.start (hf:Nat) (sl:List Nat) (nf main:Nat) (A:Ma):Option (Except Nat Ma):=
 match A.zbm hf 0 nf with
 |none=>none
 |some (.error k)=>some (.error k)
 |some (.ok A1)=>ask hf 1 A1 fun A2=>
  match A2.fns[main]? with
  |none=>none
  |some a=>Ma.enter hf sl { A2 with st:=A2.st++[.ad a] }
def Ma.told (A:Ma):Option (Int × Int × Int × Int):=
 match A.st.getLast? with
 |some (.ad a)=>
  match A.h[a]? with
  |some (.num v)=>some (1,v,0,0)
  |some (.data t fs)=>some (2,0,t,fs.length)
  |some (.clo _ _)=>some (3,0,0,0)
  |_=>none
 |_=>none
def Ma.new (fuel:Nat):Ma:=⟨[],[],[],fuel,0,0⟩
noncomputable def zwX (hf:Nat) (cd:List (Nat × List Ins)) (nf main fuel g:Nat):Option (Int × Int × Int × Int):=
 match (Ma.new fuel).start hf (cd.map Prod.fst) nf main with
 |none=>none
 |some (.error k)=>some (k,0,0,0)
 |some (.ok A1)=>
  match Ma.work hf cd g A1 with
  |none=>none
  |some (.error k)=>some (k,0,0,0)
  |some (.ok A2)=>A2.told
def zaS (sl:List Nat) (hf:Nat) (c:Option (Except Nat MSt)) (a:Option (Except Nat Ma)):Prop:=∀ r,a=some r ->
 match r with
 |.error k=>c=some (.error k)
 |.ok A'=>∃ m' φ',c=some (.ok m')/\MR sl hf m' A' φ'
theorem zaS.none(sl:List Nat)(hf:Nat)(c:Option (Except Nat MSt)):zaS sl hf c none:=fun _ h=>by cases h
theorem zaS.error(sl:List Nat)(hf k:Nat):zaS sl hf (some (.error k)) (some (.error k)):=fun _ h=>by cases h;rfl
theorem zaS.ok{sl:List Nat}{hf:Nat}{m:MSt}{A:Ma}{φ:Nat->Option Nat}(h:MR sl hf m A φ):zaS sl hf (some (.ok m)) (okA A):=fun _ e=>by cases e;exact ⟨m,φ,rfl,h⟩
variable {sl:List Nat}{hf k:Nat}{m:MSt}{A:Ma}{φ:Nat->Option Nat}
theorem zcS(M:MR sl hf m A φ){f:MSt->Option (Except Nat MSt)}{g:Ma->Option (Except Nat Ma)}(Er:∀ m' φ',MR sl hf m' A φ'->m'.s.free+k<=m'.s.top->m'.o=m.o->zaS sl hf (f m') (g A)):zaS sl hf (aft (m.zdI k) f) (ask hf k A g):=by
 unfold ask aft;rcases zvU (k:=k) M with ⟨h1,m',φ',h2,h3,h4,h5⟩|⟨h1,h2⟩
 ·rw[if_pos h1,h2];exact Er m' φ' h3 h4 h5
 ·rw[if_neg h1,h2];exact zaS.error _ _ _
end Ab
end Go.Proofs.YtgahgkddaljmkaaGreatDoor
namespace Go.Proofs.YtgahgkddaljmkaaGreatDoor
open Tryz
namespace Sf
open Ab
def Ok (r:Option (Except Nat Ma)) (P:Ma->Prop):Prop:=(∃ j,r=some (.error j))\/∃ A,r=some (.ok A)/\P A
variable {A:Ma}{P:Ma->Prop}
theorem Ok.done(h:P A):Ok (okA A) P:=.inr ⟨A,rfl,h⟩
theorem Ok.mono{r:Option (Except Nat Ma)}{Q:Ma->Prop}(h:Ok r P)(k:∀ A,P A->Q A):Ok r Q:=by
 rcases h with h|⟨A,h,p⟩
 ·exact .inl h
 ·exact .inr ⟨A,h,k A p⟩
variable {hf k:Nat}
theorem zgM{f:Ma->Option (Except Nat Ma)}(h:Ok (f A) P):Ok (Ab.ask hf k A f) P:=by
 unfold Ab.ask;split
 ·exact h
 ·exact .inl ⟨4,rfl⟩
theorem zwO{A1:Ma}{f:Ma->Option (Except Nat Ma)}(h:f A=okA A1):Ab.ask hf k A f=some (.error 4)\/Ab.ask hf k A f=okA A1:=by
 unfold Ab.ask;split
 ·exact .inr h
 ·exact .inl rfl
def Ad (h:List Nd) (w:Wd):Prop:=∃ a,w=.ad a/\a<h.length
structure Sys where
 hf:Nat
 sl:List Nat
 nf:Nat
 RB:List Nd->List Wd->Nat->Prop
 CB:Nat->Nat->Prop
 cb:∀ b n,CB b n->sl[b]?=some n/\n<4096/\∀ h F,F.length=n->(∀ w∈F,Ad h w)->RB h F b
variable {Y:Sys} {h h':List Nd} {A:Ma} {S:List Wd} {B:List Nat}
def Vd (sl:List Nat) (h:List Nd) (a:Nat):Prop:=∃ nd,h[a]?=some nd/\val sl nd
def Gv (Y:Sys) (h h':List Nd):Prop:=h.length<=h'.length/\∀ a,Vd Y.sl h a->Vd Y.sl h' a
def NT (Y:Sys) (h:List Nd):Nd->Prop
 |.num _=>True
 |.data _ fs=>∀ f∈fs,f<h.length
 |.clo b fs=>(∀ f∈fs,f<h.length)/\∃ n,fs.length<=n/\Y.CB b n
 |.busy=>True
 |.fwd b=>Vd Y.sl h b
def HT (Y:Sys) (h:List Nd):Prop:=∀ (a:Nat) (nd:Nd),h[a]?=some nd->NT Y h nd
variable {w:Wd}
theorem Ad.up(k:Ad h w)(l:h.length<=h'.length):Ad h' w:=by
 obtain ⟨a,e,k⟩:=k;exact ⟨a,e,by omega⟩
theorem Gv.refl(h:List Nd):Gv Y h h:=⟨zyN _,fun _ k=>k⟩
theorem Gv.trans{h2:List Nd}(g:Gv Y h h')(k:Gv Y h' h2):Gv Y h h2:=⟨zyR g.1 k.1,fun a p=>k.2 a (g.2 a p)⟩
variable {nd:Nd}
theorem NT.up(g:Gv Y h h')(k:NT Y h nd):NT Y h' nd:=by
 cases nd with
 |num v=>exact k
 |data t fs=>exact fun f hf=>zyS (k f hf) g.1
 |clo b fs=>exact ⟨fun f hf=>zyS (k.1 f hf) g.1,k.2⟩
 |busy=>exact k
 |fwd b=>exact g.2 b k
theorem Gv.app(nd:Nd):Gv Y h (h++[nd]):=⟨by simp,fun a ⟨n,k1,k2⟩=>⟨n,by rw[zzc (zyL.1 k1).1];exact k1,k2⟩⟩
theorem Gv.set{a:Nat}{o nd:Nd}(k:h[a]?=some o)(kv:val Y.sl o->val Y.sl nd):Gv Y h (h.set a nd):=by
 refine ⟨by simp,fun c ⟨n,k1,k2⟩=>?_⟩;by_cases e:a=c
 ·subst e;rw[k]at k1;cases k1;exact ⟨nd,by rw[zyV,if_pos rfl,if_pos (zyL.1 k).1],kv k2⟩
 ·exact ⟨n,by rw[zyV,if_neg e];exact k1,k2⟩
theorem HT.app(k:HT Y h){nd:Nd}(kn:NT Y (h++[nd]) nd):HT Y (h++[nd]):=by
 intro a n e;rw[zzj]at e;split at e
 ·exact (k a n e).up (Gv.app nd)
 ·have:=zy1 e;rw[zze]at this;subst this;exact kn
theorem HT.set(k:HT Y h){a:Nat}{nd:Nd}(g:Gv Y h (h.set a nd))(kn:NT Y (h.set a nd) nd):HT Y (h.set a nd):=by
 intro c n e;rw[zyV]at e;split at e
 ·split at e
  ·cases e;exact kn
  ·cases e
 ·exact (k c n e).up g
inductive K (Y:Sys) (h:List Nd):List Wd->List Nat->Prop
 |nil:K Y h [] []
 |upd {S:List Wd} {B:List Nat} {c:Nat}:K Y h S B->K Y h (S++[.ad c,.mk 0 0]) (c::B)
 |wait {S F:List Wd} {B:List Nat} {b:Nat}:K Y h S B->b<1000000000->(∀ h' v,Gv Y h h'->Vd Y.sl h' v->Y.RB h' (F++[.ad v]) b)->K Y h (S++(F++[.mk 1 b])) B
 |args {S ws:List Wd} {B:List Nat}:K Y h S B->(∀ w∈ws,Ad h w)->1<=ws.length->ws.length<=1300->K Y h (S++(ws++[.mk 2 ws.length])) B
theorem K.up(g:Gv Y h h')(k:K Y h S B):K Y h' S B:=by
 induction k with
 |nil=>exact .nil
 |upd _ ih=>exact .upd ih
 |wait _ hb hr ih=>exact .wait ih hb (fun h2 v g2 hv=>hr h2 v (g.trans g2) hv)
 |args _ hw h1 h2 ih=>exact .args ih (fun w hm=>(hw w hm).up g.1) h1 h2
def BZ (h:List Nd) (B:List Nat):Prop:=B.Nodup/\∀ c∈B,h[c]?=some .busy
def Good (Y:Sys) (A:Ma):Prop:=HT Y A.h/\A.fns=List.range Y.nf/\Y.nf<=A.h.length
def Cf (Y:Sys) (A:Ma):Prop:=Good Y A/\∃ S B F,A.st=S++F/\K Y A.h S B/\BZ A.h B/\((∃ b:Nat,A.next=b/\Y.RB A.h F b)\/(A.next=-1/\∃ v,F=[.ad v]/\Vd Y.sl A.h v))
theorem zwM:∀ {ws:List Wd},(∀ w∈ws,Ad h w)->∃ fs:List Nat,ws=(fs.map Wd.ad).reverse/\fs.length=ws.length/\∀ f∈fs,f<h.length
 |[],_=>⟨[],rfl,rfl,by simp⟩
 |w::ws,k=>by
  obtain ⟨a,rfl,ha⟩:=k w (by simp);obtain ⟨fs,rfl,_,e3⟩:=zwM (ws:=ws) (fun x hx=>k x (by simp[hx]));refine ⟨fs++[a],by simp,by simp,fun f hf=>?_⟩;rcases zzi.1 hf with hf|hf
  ·exact e3 f hf
  ·rw[zze.1 hf];exact ha
theorem zqh:∀ (fs:List Nat),zwL (fs.map Wd.ad)=some fs
 |[]=>rfl
 |f::fs=>by rw[zza,zwL,zqh fs];rfl
theorem zef(st ws:List Wd):zcE (st++ws) ws.length=st:=by
 unfold zcE;rw[show (st++ws).length-ws.length=st.length by simp,List.take_left]
theorem zm9(st:List Wd){ws:List Wd}(k:∀ w∈ws,Ad h w):∃ fs,zlT (st++ws) ws.length=some fs/\fs.length=ws.length/\∀ f∈fs,f<h.length:=by
 obtain ⟨fs,e1,e2,e3⟩:=zwM k;refine ⟨fs,?_,e2,e3⟩;unfold zlT;rw[if_pos (by simp),show (st++ws).length-ws.length=st.length by simp,List.drop_left,e1,List.reverse_reverse];exact zqh fs
variable {fs:List Nat}
theorem zte(k:∀ f∈fs,f<h.length):∀ w∈(fs.map Wd.ad).reverse,Ad h w:=fun w hw=>by
 rw[List.mem_reverse,zz1]at hw;obtain ⟨f,hf,rfl⟩:=hw;exact ⟨f,rfl,k f hf⟩
theorem give:∀ (g:Nat) {S:List Wd} {B:List Nat} {v:Nat} {A:Ma},A.st=S++[.ad v]->S.length<g->K Y A.h S B->BZ A.h B->Vd Y.sl A.h v->Good Y A->Ok (A.za1 Y.hf Y.sl g) fun A'=>Cf Y A'/\A'.fuel=A.fuel
 |0,_,_,_,_,_,hg,_,_,_,_=>by omega
 |g+1,S,B,v,A,hs,hg,hK,hB,hv,hG=>by
  rw[Ma.za1];cases hK with
  |nil=>
   rw[if_pos (by rw[hs];simp)];exact .done ⟨⟨hG,[],[],[.ad v],hs,.nil,hB,.inr ⟨rfl,v,rfl,hv⟩⟩,rfl⟩
  |@upd S B c hK=>
   have hl:A.st.length=S.length+3:=by rw[hs];simp
   have e1:A.st[A.st.length-1]?=some (.ad v):=by rw[hl,hs,zy3 (by simp)];simp
   have e2:A.st[A.st.length-2]?=some (.mk 0 0):=by rw[hl,hs,zzk,zy3 (by omega),show S.length+3-2-S.length=1 by omega];rfl
   have e3:A.st[A.st.length-3]?=some (.ad c):=by rw[hl,hs,zzk,zy3 (by omega),show S.length+3-3-S.length=0 by omega];rfl
   have e4:zcE A.st 3=S:=by rw[hs,zzk];exact zef S [.ad c,.mk 0 0,.ad v]
   have hc:=hB.2 c (by simp);have eZ:=zAA.1 hB.1;have ie:Gv Y A.h (A.h.set c (.fwd v)):=Gv.set hc (fun e=>e.elim);rw[if_neg (by omega),e2];simp only;rw[if_neg (by omega),if_pos trivial,e1];simp only;rw[if_pos (by omega),e3,e4];simp only;have ih:=give g (S:=S) (B:=B) (v:=v) (A:={ A with h:=A.h.set c (.fwd v),st:=S++[.ad v] }) rfl (by simp at hg;omega) (hK.up ie) ⟨eZ.2,fun d hd=>by
    show (A.h.set c _)[d]?=_;rw[zyV,if_neg (fun e=>eZ.1 (by rw[e];exact hd))];exact hB.2 d (by simp[hd])⟩ (ie.2 v hv) ⟨hG.1.set ie (ie.2 v hv),hG.2.1,zyR hG.2.2 ie.1⟩
   obtain ⟨nd,n1,n2⟩:=hv;rw[hc,n1];cases nd with
   |num x=>exact ih
   |data t fs=>exact ih
   |clo b fs=>
    simp only;rw[if_pos (show ∃ n,Y.sl[b]?=some n/\fs.length<n from n2)];exact ih
   |busy=>exact n2.elim
   |fwd a=>exact n2.elim
  |@wait S F B b hK hb hr=>
   have hl:A.st.length=(S++F).length+2:=by rw[hs];simp;omega
   have e0:A.st=(S++F)++[.mk 1 b,.ad v]:=by rw[hs];simp
   have e1:A.st[A.st.length-1]?=some (.ad v):=by rw[hl,e0,zy3 (by omega),show (S++F).length+2-1-(S++F).length=1 by omega];rfl
   have e2:A.st[A.st.length-2]?=some (.mk 1 b):=by rw[hl,e0,zy3 (by omega),show (S++F).length+2-2-(S++F).length=0 by omega];rfl
   have e4:zcE A.st 2=S++F:=by rw[e0];exact zef (S++F) [.mk 1 b,.ad v]
   rw[if_neg (by omega),e2];simp only;rw[if_neg (by omega),if_neg (by omega),if_pos trivial,e1,e4];exact .done ⟨⟨hG,S,B,F++[.ad v],by simp,hK,hB,.inl ⟨b,rfl,hr _ v (Gv.refl _) hv⟩⟩,rfl⟩
  |@args S ws B hK hw h1 h2=>
   have hl:A.st.length=(S++ws).length+2:=by rw[hs];simp;omega
   have e0:A.st=(S++ws)++[.mk 2 ws.length,.ad v]:=by rw[hs];simp
   have e2:A.st[A.st.length-2]?=some (.mk 2 ws.length):=by rw[hl,e0,zy3 (by omega),show (S++ws).length+2-2-(S++ws).length=0 by omega];rfl
   have e4:zcE A.st 2=S++ws:=by rw[e0];exact zef (S++ws) [.mk 2 ws.length,.ad v]
   have e5:zcE A.st (2+ws.length)=S:=by
    rw[e0,zzk];have:=zef S (ws++[.mk 2 ws.length,.ad v])
    rwa [zyT,Nat.add_comm]at this
   rw[if_neg (by omega),e2];simp only;rw[if_neg (by omega),if_neg (by omega),if_neg (by omega),if_pos trivial];unfold Ma.za5;rw[show A.st.getLast?=some (.ad v) by rw[hs];simp];simp only;obtain ⟨nd,n1,n2⟩:=hv;have mR:=hG.1 v nd n1;rw[n1];cases nd with
   |num x=>exact .inl ⟨3,rfl⟩
   |data t fs=>exact .inl ⟨3,rfl⟩
   |busy=>exact n2.elim
   |fwd a=>exact n2.elim
   |clo b fs=>
    obtain ⟨n,m1,m2⟩:=n2;obtain ⟨t1,n',t2,t3⟩:=mR;obtain ⟨c1,c2,c3⟩:=Y.cb b n' t3;rw[m1]at c1;cases c1;simp only;rw[m1];simp only;rw[if_neg (by omega)];by_cases aj:ws.length<n-fs.length
    ·rw[if_pos aj];obtain ⟨gs,g1,g2,g3⟩:=zm9 S hw;have hx:A.extend Y.hf b ws.length fs=some (.error 4)\/A.extend Y.hf b ws.length fs=okA { A with h:=A.h++[.clo b (fs++gs)],st:=S++[.ad A.h.length] }:=by
      unfold Ma.extend;refine zwO ?_;rw[if_pos ⟨by omega,h1⟩,e4,g1,e5]
     rcases hx with hx|hx
     ·rw[hx];exact .inl ⟨4,rfl⟩
     ·rw[hx];have ie:Gv Y A.h (A.h++[.clo b (fs++gs)]):=Gv.app _;exact give g (S:=S) (B:=B) (v:=A.h.length) (A:={ A with h:=A.h++[.clo b (fs++gs)],st:=S++[.ad A.h.length] }) rfl (by simp at hg;omega) (hK.up ie) ⟨hB.1,fun d hd=>by
       show (A.h++_)[d]?=_;rw[zzc (zyL.1 (hB.2 d hd)).1];exact hB.2 d hd⟩ ⟨.clo b (fs++gs),by simp,n,m1,by simp;omega⟩ ⟨hG.1.app ⟨fun f hf=>by
        simp only[zyT,zy0];rcases zzi.1 hf with hf|hf
        ·have:=t1 f hf;omega
        ·have:=g3 f hf;omega,n,by simp;omega,t3⟩,hG.2.1,zyR hG.2.2 ie.1⟩
    ·rw[if_neg aj,if_neg (by omega)];have hx:A.call Y.hf b (n-fs.length) (ws.length-(n-fs.length)) fs=some (.error 4)\/A.call Y.hf b (n-fs.length) (ws.length-(n-fs.length)) fs=okA { A with st:=leave (S++ws) (n-fs.length) (ws.length-(n-fs.length))++(fs.map Wd.ad).reverse,next:=b }:=by
      unfold Ma.call;refine zwO ?_;rw[if_pos ⟨by rw[hl];simp;omega,by omega⟩,e4]
     rcases hx with hx|hx
     ·rw[hx];exact .inl ⟨4,rfl⟩
     ·rw[hx];simp only[okA,if_true];refine .done ⟨⟨hG,?_⟩,rfl⟩;have jX:=zte t1;by_cases hz:ws.length-(n-fs.length)=0
      ·refine ⟨S,B,ws++(fs.map Wd.ad).reverse,by simp[leave,hz],hK,hB,.inl ⟨b,rfl,c3 _ _ (by simp;omega) (fun w hm=>?_)⟩⟩;rcases zzi.1 hm with hm|hm
       ·exact hw w hm
       ·exact jX w hm
      ·have hlen:(ws.take (ws.length-(n-fs.length))).length=ws.length-(n-fs.length):=by simp
       refine ⟨S++(ws.take (ws.length-(n-fs.length))++[.mk 2 (ws.take (ws.length-(n-fs.length))).length]),B,ws.drop (ws.length-(n-fs.length))++(fs.map Wd.ad).reverse,?_,K.args hK (fun w hm=>hw w (zAp hm)) (by omega) (by omega),hB,.inl ⟨b,rfl,c3 _ _ (by simp;omega) (fun w hm=>?_)⟩⟩
       ·simp only[leave,if_neg hz];rw[hlen,show (S++ws).length-(n-fs.length)=S.length+(ws.length-(n-fs.length)) by simp;omega,List.take_length_add_append,List.drop_length_add_append];simp
       ·rcases zzi.1 hm with hm|hm
        ·exact hw w (List.mem_of_mem_drop hm)
        ·exact jX w hm
theorem enter{a:Nat}(hs:A.st=S++[.ad a])(ha:a<A.h.length)(hK:K Y A.h S B)(hB:BZ A.h B)(hG:Good Y A):Ok (A.enter Y.hf Y.sl) fun A'=>Cf Y A'/\A'.fuel=A.fuel:=by
 have hcut:zcE A.st 1=S:=by rw[hs];exact zef S [.ad a]
 have jH:∀ c,Vd Y.sl A.h c->Ok (Ma.za1 Y.hf Y.sl (A.st.length+1) { A with st:=S++[.ad c] }) fun A'=>Cf Y A'/\A'.fuel=A.fuel:=fun c hc=>give _ (A:={ A with st:=S++[.ad c] }) rfl (by rw[hs];simp;omega) hK hB hc hG
 have eZ:A.h[a]?=some A.h[a]:=zyM ha;unfold Ma.enter;rw[show A.st.getLast?=some (.ad a) by rw[hs];simp];simp only;rw[hcut];generalize hn:A.h[a]=nd at eZ;have mR:=hG.1 a nd eZ;cases nd with
 |fwd b=>
  rw[zgl eZ];obtain ⟨nd,n1,n2⟩:=mR;have hg:=jH b ⟨nd,n1,n2⟩;rw[n1];cases nd with
  |num x=>exact hg
  |data t fs=>exact hg
  |busy=>exact n2.elim
  |fwd a=>exact n2.elim
  |clo c fs=>
   obtain ⟨n,m1,m2⟩:=n2;simp only;rw[m1];simp only;rw[if_neg (by omega),if_pos m2];exact hg
 |num x=>
  rw[zdc eZ rfl,eZ];exact jH a ⟨_,eZ,trivial⟩
 |data t fs=>
  rw[zdc eZ rfl,eZ];exact jH a ⟨_,eZ,trivial⟩
 |busy=>
  rw[zdc eZ rfl,eZ];exact .inl ⟨5,rfl⟩
 |clo b fs=>
  rw[zdc eZ rfl,eZ];obtain ⟨t1,n,t2,t3⟩:=mR;obtain ⟨c1,c2,c3⟩:=Y.cb b n t3;simp only;rw[c1];simp only;by_cases aj:n=fs.length
  ·rw[if_pos aj];unfold Ma.zdy;refine zgM (.done ⟨?_,rfl⟩);have ie:Gv Y A.h (A.h.set a .busy):=Gv.set eZ (fun ⟨m,e1,e2⟩=>by rw[c1]at e1;cases e1;omega);refine ⟨⟨hG.1.set ie trivial,hG.2.1,zyR hG.2.2 ie.1⟩,S++[.ad a,.mk 0 0],a::B,(fs.map Wd.ad).reverse,by simp,(hK.up ie).upd,⟨zAA.2 ⟨fun hm=>?_,hB.1⟩,fun d hd=>?_⟩,.inl ⟨b,rfl,c3 _ _ (by simp[aj]) (zte fun f hf=>zyS (t1 f hf) ie.1)⟩⟩
   ·have:=hB.2 a hm;rw[eZ]at this;cases this
   ·simp only;rw[zyV];split
    ·rfl
    ·next e=>
     rcases zzo.1 hd with e'|hd
     ·exact absurd e'.symm e
     ·exact hB.2 d hd
  ·rw[if_neg aj,if_pos (by omega)];exact jH a ⟨_,eZ,n,c1,by omega⟩
end Sf
end Go.Proofs.YtgahgkddaljmkaaGreatDoor
namespace Go.Proofs.YtgahgkddaljmkaaGreatDoor
open Tryz
namespace Sf
open Cp (Nm)
open Ab
structure Cx where
 hf:Nat
 cd:List (Nat × List Ins)
 fns:List Nm
 N:Nat
abbrev Cx.sl (X:Cx):List Nat:=X.cd.map Prod.fst
abbrev Cx.fr (X:Cx):Th.Ex->List Nm:=Cp.free X.N
abbrev Cx.wk (X:Cx) (n:Nat):Th.Ex->Nat->Cp.Bs->Cp.Bs:=Cp.work (Cp.free X.N) X.fns n
noncomputable abbrev Cx.ri (X:Cx) (is:List Ins) (A:Ma):Option (Except Nat Ma):=Ma.zbb X.hf X.sl is A
def znn (X:Cx) (bl:List (Nat × List Ins)):Prop:=∀ (j:Nat) (b:Nat × List Ins),X.fns.length<=j->bl[j]?=some b->X.cd[j]?=some b
def Kn (X:Cx) (l zac:List Nm):Prop:=∀ x∈l,x≠[]/\(x∈zac\/x∈X.fns)
def Wq (X:Cx) (m:Nat) (e:Th.Ex) (below:Nat) (q:Cp.Bs):Prop:=Cp.Dp m e/\m<=X.N/\Cp.wt X.N e<=1300/\X.fns.length<=q.blocks.length/\znn X (X.wk m e below q).blocks/\Kn X (X.fr e) q.zac
def Cl (X:Cx) (n:Nat) (is:List Ins):Prop:=(∃ m e q,Wq X m e 0 q/\q.code=[]/\q.zac.length=n/\is=(X.wk m e 0 q).code)\/∃ t,t<=1000/\is=[.pack t n,.enter]
def CB (X:Cx) (b n:Nat):Prop:=n<4096/\∃ is,X.cd[b]?=some (n,is)/\Cl X n is
def RB (X:Cx) (h:List Nd) (F:List Wd) (b:Nat):Prop:=∃ is,X.cd[b]?=some (F.length,is)/\(
 (Cl X F.length is/\F.length<4096/\∀ w∈F,Ad h w) \/
 (∃ F0 v m r q b2 sg,∃ ns:List Nm,F=F0++[.ad v]/\Vd X.sl h v/\(∀ w∈F0,Ad h w)/\Wq X m r 2 q/\q.code=[.zbX,.push F0.length,.wait b2]/\ns.length=F0.length/\q.zac=ns++[[],[],[]]/\is=(X.wk m r 2 q).code/\X.cd[b2]?=some (2,[.comp ⟨⟨sg⟩⟩,.enter])/\sg∈Th.six) \/
 (∃ l r sg,F=[.ad l,.ad r]/\Vd X.sl h l/\Vd X.sl h r/\is=[.comp ⟨⟨sg⟩⟩,.enter]/\sg∈Th.six) \/
 ∃ F0 v zao,F=F0++[.ad v]/\Vd X.sl h v/\(∀ w∈F0,Ad h w)/\is=[.choose zao]/\∀ o∈zao,CB X o.2.2 (F0.length+o.2.1))
abbrev Cx.sys (X:Cx):Sys:=⟨X.hf,X.sl,X.fns.length,RB X,CB X,fun b n ⟨h1,is,h2,h3⟩=>⟨by rw[List.getElem?_map,h2];rfl,h1,fun h F hl hw=>⟨is,by rw[hl];exact h2,.inl ⟨by rw[hl];exact h3,by omega,hw⟩⟩⟩⟩
variable {X:Cx} {h h':List Nd} {A A':Ma} {base F ws:List Wd} {zac more:List Nm} {q:Cp.Bs} {n:Nat} {e:Th.Ex}
theorem znn.pre{bl more:List (Nat × List Ins)}(k:znn X (bl++more)):znn X bl:=fun j b hj hb=>k j b hj (by rw[zzc (zyL.1 hb).1];exact hb)
theorem znn.ext{q':Cp.Bs}(k:znn X q'.blocks)(he:Cp.Ext q q'):znn X q.blocks:=by
 obtain ⟨⟨bl,e,_⟩,_⟩:=he;rw[e]at k;exact k.pre
theorem zf6{q':Cp.Bs}(he:Cp.Ext q q')(hq:X.fns.length<=q.blocks.length):X.fns.length<=q'.blocks.length:=by
 obtain ⟨⟨bl,e,_⟩,_⟩:=he;rw[e];simp;omega
variable {l:List Nm}
theorem Kn.sub{l':List Nm}(k:Kn X l zac)(hs:∀ x∈l',x∈l):Kn X l' zac:=fun x hx=>k x (hs x hx)
theorem Kn.app(k:Kn X l zac)(more:List Nm):Kn X l (zac++more):=fun x hx=>⟨(k x hx).1,(k x hx).2.imp_left fun p=>by simp[p]⟩
theorem Kn.held{l':List Nm}(k:Kn X l zac){out:List Nm}(ho:∀ x∈l',x ∉ out->x∈l)(hn:∀ x∈out,x≠[]){s':List Nm}(h1:∀ x∈out,x∈s')(h2:∀ x∈Cp.zai zac l,x∈s'):Kn X l' s':=fun x hx=>by
 by_cases yi:x∈out
 ·exact ⟨hn x yi,.inl (h1 x yi)⟩
 ·have hl:=ho x hx yi;exact ⟨(k x hl).1,(k x hl).2.imp_left fun p=>h2 x (Cp.zbK.2 ⟨hl,p⟩)⟩
variable {P:Ma->Prop}
theorem zb3{a b:List Ins}:∀ {A:Ma},Ok (X.ri a A) (fun A'=>Ok (X.ri b A') P)->Ok (X.ri (a++b) A) P:=by
 induction a with
 |nil=>
  intro A k;rcases k with ⟨j,e⟩|⟨A',e,k⟩
  ·cases e
  ·cases e;exact k
 |cons i a ih=>
  intro A k;show Ok (Ma.zbb X.hf X.sl (i::(a++b)) A) P;have k':Ok (Ma.zbb X.hf X.sl (i::a) A) (fun A'=>Ok (X.ri b A') P):=k;rw[Ma.zbb]at k' ⊢;split
  ·exact .inl ⟨5,rfl⟩
  ·next h0=>
   rw[if_neg h0]at k';cases hs:Ma.step X.hf X.sl { A with fuel:=A.fuel-1 } i with
   |none=>
    rw[hs]at k';rcases k' with ⟨j,e⟩|⟨A',e,_⟩ <;> cases e
   |some r=>
    cases r with
    |error j=>exact .inl ⟨j,rfl⟩
    |ok A2=>
     rw[hs]at k';exact ih k'
theorem ri1{i:Ins}(k:A.fuel≠0->Ok (Ma.step X.hf X.sl { A with fuel:=A.fuel-1 } i) P):Ok (X.ri [i] A) P:=by
 show Ok (Ma.zbb X.hf X.sl [i] A) P;rw[Ma.zbb];split
 ·exact .inl ⟨5,rfl⟩
 ·next h0=>
  rcases k h0 with ⟨j,e⟩|⟨A',e,p⟩
  ·rw[e];exact .inl ⟨j,rfl⟩
  ·rw[e];exact .done p
def sh:Nd->Nd
 |.clo b fs=>.clo b (List.replicate fs.length 0)
 |nd=>nd
def G (h h':List Nd):Prop:=∀ (a:Nat) (nd:Nd),h[a]?=some nd->∃ nd',h'[a]?=some nd'/\sh nd'=sh nd
theorem G.refl(h:List Nd):G h h:=fun _ nd k=>⟨nd,k,rfl⟩
theorem G.trans{h2:List Nd}(g:G h h')(k:G h' h2):G h h2:=fun a nd e=>by
 obtain ⟨n1,e1,e2⟩:=g a nd e;obtain ⟨n2,f1,f2⟩:=k a n1 e1;exact ⟨n2,f1,f2.trans e2⟩
theorem G.app(nd:Nd):G h (h++[nd]):=fun a n e=>⟨n,by rw[zzc (zyL.1 e).1];exact e,rfl⟩
variable {nd:Nd}{fs:List Nat}
theorem zt4{b:Nat}(e:sh nd=sh (.clo b fs)):∃ gs,nd=.clo b gs/\gs.length=fs.length:=by
 cases nd with
 |clo c gs=>
  simp only[sh,Nd.clo.injEq]at e;have:=congrArg List.length e.2;simp at this;exact ⟨gs,by rw[e.1],this⟩
 |_=>simp[sh]at e
theorem zyy{nd':Nd}(e:sh nd'=sh nd)(hn:∀ b fs,nd≠.clo b fs):nd'=nd:=by
 cases nd with
 |clo b fs=>exact absurd rfl (hn b fs)
 |_=>cases nd' <;> simp[sh]at e ⊢ <;> exact e
theorem G.len(g:G h h'):h.length<=h'.length:=by
 rcases zAw h'.length h.length with k|k
 ·obtain ⟨nd,e,_⟩:=g h'.length _ (zyM k);have:=(zyL.1 e).1;omega
 ·exact k
theorem G.gv{Y:Sys}(g:G h h'):Gv Y h h':=⟨g.len,fun a ⟨nd,e,v⟩=>by
 obtain ⟨n',e1,e2⟩:=g a nd e;refine ⟨n',e1,?_⟩;cases nd with
 |clo b fs=>
  obtain ⟨gs,rfl,hl⟩:=zt4 e2;obtain ⟨m,m1,m2⟩:=v;exact ⟨m,m1,by omega⟩
 |_=>rw[zyy e2 (by simp)];exact v⟩
theorem G.bz{B:List Nat}(g:G h h')(k:BZ h B):BZ h' B:=⟨k.1,fun c hc=>by
 obtain ⟨n',e1,e2⟩:=g c _ (k.2 c hc);rw[e1,zyy e2 (by simp)]⟩
def FO (h:List Nd) (zac:List Nm) (F:List Wd):Prop:=F.length=zac.length/\∀ (i:Nat) (x:Nm),zac[i]?=some x->x≠[]->∃ w,F[i]?=some w/\Ad h w
theorem FO.app{F':List Wd}(k:FO h zac F)(k':FO h more F'):FO h (zac++more) (F++F'):=by
 refine ⟨by simp[k.1,k'.1],fun i x hx hn=>?_⟩;rw[zzj]at hx;split at hx
 ·next hi=>
  obtain ⟨w,w1,w2⟩:=k.2 i x hx hn;exact ⟨w,by rw[zzc (by rw[k.1];exact hi)];exact w1,w2⟩
 ·next hi=>
  obtain ⟨w,w1,w2⟩:=k'.2 _ x hx hn;exact ⟨w,by rw[zy3 (by rw[k.1];omega),k.1];exact w1,w2⟩
variable {k:Nat}
theorem FO.none(h:List Nd)(hk:ws.length=k):FO h (List.replicate k []) ws:=⟨by simp[hk],fun i x hx hn=>absurd (zzQ (zy1 hx)) hn⟩
theorem FO.all(hl:F.length=zac.length)(hw:∀ w∈F,Ad h w):FO h zac F:=⟨hl,fun i x hx _=>by
 have:=(zyL.1 hx).1;exact ⟨F[i],zyM (by omega),hw _ (by simp)⟩⟩
theorem FO.up(k:FO h zac F)(l:h.length<=h'.length):FO h' zac F:=⟨k.1,fun i x hx hn=>by
 obtain ⟨w,w1,w2⟩:=k.2 i x hx hn;exact ⟨w,w1,w2.up l⟩⟩
structure Ru (X:Cx) (A:Ma) (zac:List Nm) (base F:List Wd):Prop where
 st:A.st=base++F
 below:A.below=base.length
 zct:Good X.sys A
 fo:FO A.h zac F
structure Nx (X:Cx) (A A':Ma) (ws:List Wd):Prop where
 st:A'.st=A.st++ws
 below:A'.below=A.below
 zct:Good X.sys A'
 g:G A.h A'.h
 fuel:A'.fuel<=A.fuel
theorem Nx.trans{A2:Ma}{vs:List Wd}(k:Nx X A A' ws)(l:Nx X A' A2 vs):Nx X A A2 (ws++vs):=⟨by rw[l.st,k.st,zzk],l.below.trans k.below,l.zct,k.g.trans l.g,zyR l.fuel k.fuel⟩
theorem Ru.next(r:Ru X A zac base F)(k:Nx X A A' ws)(hf:FO A'.h more ws):Ru X A' (zac++more) base (F++ws):=⟨by rw[k.st,r.st,zzk],k.below.trans r.below,k.zct,(r.fo.up k.g.len).app hf⟩
theorem Ru.slot(r:Ru X A zac base F){i:Nat}{w:Wd}(hw:F[i]?=some w):A.slot i=some w:=by
 unfold Ma.slot;rw[r.below,if_pos (by omega),r.st,zy2,zy3 (by omega),show base.length+i-base.length=i by omega];exact hw
theorem zlR{x:Nm}{i:Nat}:∀ {k:Nat},Cp.zcq zac x k=some i->zac[i]?=some x
 |0,e=>by cases e
 |k+1,e=>by
  rw[Cp.zcq]at e;split at e
  ·next hx=>cases e;exact hx
  ·exact zlR e
variable {hf:Nat}{w:Wd}
theorem zrO{f:Ma->Option Wd}(hg:Good X.sys A)(k:f { A with fuel:=A.fuel-1 }=some w):Ok (Ma.zjF hf f { A with fuel:=A.fuel-1 }) fun A'=>A'.h=A.h/\Nx X A A' [w]:=by
 unfold Ma.zjF;refine zgM ?_;rw[k];exact .done ⟨rfl,rfl,rfl,hg,G.refl _,Nat.sub_le _ _⟩
theorem zuL(q:Cp.Bs){x:Nm}(hk:x≠[]/\(x∈q.zac\/x∈X.fns)):∃ i,q.use X.fns x=q.push i/\∀ {A base F},Ru X A q.zac base F->Ok (X.ri [i] A) fun A'=>∃ w,Ad A'.h w/\Nx X A A' [w]:=by
 unfold Cp.Bs.use;cases hs:Cp.za9 q.zac x with
 |some i=>
  refine ⟨.push i,rfl,fun r=>ri1 fun _=>?_⟩;obtain ⟨w,w1,w2⟩:=r.fo.2 i x (zlR hs) hk.1;exact (zrO r.zct (r.slot w1)).mono fun A' ⟨e,k⟩=>⟨w,by rw[e];exact w2,k⟩
 |none=>
  have hf:x∈X.fns:=hk.2.resolve_left (Cp.zca.1 hs);have aj:=zzF hf;refine ⟨.zcW (X.fns.idxOf x),rfl,fun {A _ _} r=>ri1 fun _=>?_⟩;refine (zrO (w:=.ad (X.fns.idxOf x)) r.zct ?_).mono fun A' ⟨e,k⟩=>⟨_,⟨_,rfl,?_⟩,k⟩
  ·show (A.fns[X.fns.idxOf x]?).map Wd.ad=_;rw[r.zct.2.1,List.getElem?_range aj];rfl
  ·rw[e];exact zyS aj r.zct.2.2
def zw4 (X:Cx) (A:Ma) (k:Nat) (A':Ma):Prop:=∃ ws,ws.length=k/\(∀ w∈ws,Ad A'.h w)/\Nx X A A' ws
theorem zw4.cons{A2:Ma}(hw:Ad A'.h w)(h1:Nx X A A' [w])(h2:zw4 X A' k A2):zw4 X A (k+1) A2:=by
 obtain ⟨ws,e,hs,n⟩:=h2;refine ⟨w::ws,by simp[e],fun v hv=>?_,h1.trans n⟩;rcases zzo.1 hv with rfl|hv
 ·exact hw.up n.g.len
 ·exact hs v hv
theorem zqX:∀ (l:List Nm) (q:Cp.Bs),Kn X l q.zac->∃ is,l.foldl (Cp.Bs.use X.fns) q=⟨q.blocks,q.zac++List.replicate l.length [],q.code++is⟩/\∀ {A base F},Ru X A q.zac base F->Ok (X.ri is A) (zw4 X A l.length)
 |[],q,_=>⟨[],by simp,fun {A _ _} r=>.done ⟨[],rfl,by simp,by simp,rfl,r.zct,G.refl _,zyN _⟩⟩
 |x::l,q,hk=>by
  obtain ⟨i,e1,r1⟩:=zuL q (hk x (by simp));obtain ⟨is,e2,r2⟩:=zqX l (q.push i) ((hk.sub fun y hy=>by simp[hy]).app [[]]);refine ⟨i::is,by rw[zz2,e1,e2];simp[Cp.Bs.push,zz4],fun r=>zb3 (a:=[i]) ((r1 r).mono fun A' ⟨w,w1,w2⟩=>?_)⟩;exact (r2 (r.next w2 (FO.none _ (k:=1) rfl))).mono fun A2 k=>k.cons w1 w2
theorem zfF(q:Cp.Bs)(hk:Kn X l q.zac):∃ is,q.zak X.fns l=⟨q.blocks,q.zac++List.replicate l.length [],q.code++is⟩/\∀ {A base F},Ru X A q.zac base F->Ok (X.ri is A) (zw4 X A l.length):=by
 have:=zqX l.reverse q (hk.sub fun x hx=>by simpa using hx)
 rwa [zy4]at this
variable {c:Nat}{st:List Wd}
theorem zmv{nd:List Nat->Nd}(hg:Good X.sys A)(hs:A.st=st++ws)(hc:ws.length=c)(hw:∀ w∈ws,Ad A.h w)(hn:∀ fs,fs.length=c->(∀ f∈fs,f<A.h.length)->NT X.sys (A.h++[nd fs]) (nd fs)):Ok (A.mkN hf nd c) fun A'=>∃ fs,fs.length=c/\A'={ A with h:=A.h++[nd fs],st:=st++[.ad A.h.length] }/\Good X.sys A':=by
 obtain ⟨fs,e1,e2,e3⟩:=zm9 st hw;unfold Ma.mkN;refine zgM ?_;rw[hs,<-hc,e1,zef];exact .done ⟨fs,e2,rfl,hg.1.app (hn fs (by omega) e3),hg.2.1,zyR hg.2.2 (by simp)⟩
theorem zg0{α:Type}(l:List α)(x:α):(l++[x])[l.length]?=some x:=by simp
theorem zqk{sl:List Nm}{bl:List (Nat × List Ins)}(d1:Cp.Dp n e)(hn:n<=X.N)(d2:Cp.wt X.N e<=1300)(hq:X.fns.length<=bl.length)(hs:znn X ((X.wk n e 0 ⟨bl,sl,[]⟩).blocks++[(sl.length,(X.wk n e 0 ⟨bl,sl,[]⟩).code)]))(hk:Kn X (X.fr e) sl)(hl:sl.length<4096):CB X (X.wk n e 0 ⟨bl,sl,[]⟩).blocks.length sl.length:=by
 obtain ⟨hx,_⟩:=Cp.zbC (M:=1300) X.N X.fns (by omega) n e 0 ⟨bl,sl,[]⟩ d1 (d1.le hn) d2;exact ⟨hl,_,hs _ _ (zf6 hx hq) (zg0 _ _),.inl ⟨n,e,⟨bl,sl,[]⟩,⟨d1,hn,d2,hq,hs.pre,hk⟩,rfl,rfl,rfl⟩⟩
theorem zsP(hd:Cp.Dp n e\/(e.kind=3\/e.kind=4)/\Cp.Dp (n+1) e)(hn:n+1<=X.N)(hw:Cp.wt X.N e<=1300)(hq:X.fns.length<=q.blocks.length)(hs:znn X (Cp.zal (X.wk n) X.fr q e).1.blocks)(hk:Kn X (X.fr e) q.zac):
  (Cp.zai q.zac (X.fr e)).length<=1300/\∃ k,(Cp.zai q.zac (X.fr e)).length<=k/\CB X (Cp.zal (X.wk n) X.fr q e).2.1 k:=by
 have dD:Cp.Dp X.N e:=by
  rcases hd with hd|⟨_,hd⟩
  ·exact hd.le (by omega)
  ·exact hd.le hn
 have hlen:=zyR (Cp.zbg q.zac (X.fr e)) (Cp.zaZ X.N e);refine ⟨by omega,?_⟩;by_cases h4:e.kind=4
 ·obtain ⟨aH,d,iI⟩:=dD.zea.k4 h4;rw[Cp.zi8 q h4 iI]at hs ⊢;have ev:=Cp.zdh dD;have cu:=Cp.zcs e.names;have EM:=dD.zgZ (k:=d) (by simp[iI]);have ak:=dD.free;rw[iI]at ak;simp[h4]at ak;refine ⟨_,?_,zqk ?_ (by omega) (by omega) hq hs (hk.held (out:=Th.texts e.names) (fun x hx fT=>?_) (fun x hx=>zfD dD.zea.nm hx) (fun x hx=>by simp[hx]) (fun x hx=>by simp[hx])) (by rw[zy4,zyT,cu];omega)⟩
  ·simp
  ·rcases hd with hd|⟨_,hd⟩
   ·exact hd.kid (by simp[iI])
   ·exact hd.2 d (by simp[iI])
  ·show x∈Cp.free X.N e;rw[ak];exact Cp.zaN.2 ⟨hx,fT⟩
 ·by_cases h3:e.kind=3
  ·rw[Cp.zlg q h3]at hs ⊢;have ak:=dD.free;simp[h3]at ak;have:=hs _ _ hq (zg0 _ _);rw[zzz]at this;have ha:=dD.zea.ar;have ht:=dD.zea.tag;exact ⟨e.arity,by show (Cp.zai q.zac (Cp.free X.N e)).length<=_;rw[ak];simp[Cp.zai],by omega,_,this,.inr ⟨e.tag,by omega,rfl⟩⟩
  ·rw[Cp.zh8 q h3 h4]at hs ⊢;refine ⟨_,?_,zqk ?_ (by omega) hw hq hs (hk.held (out:=[]) (fun x hx _=>hx) (by simp) (by simp) (by simp)) (by rw[zy4];omega)⟩
   ·simp
   ·rcases hd with hd|⟨k3,_⟩
    ·exact hd
    ·omega
theorem CB.lt{b:Nat}(hX:X.cd.length<=1000000)(c:CB X b k):b<=1000000:=by
 obtain ⟨_,is,c,_⟩:=c;have:=(zyL.1 c).1;omega
theorem zqy(hX:X.cd.length<=1000000)(hd:Cp.Dp n e\/e.kind<=4/\Cp.Dp (n+1) e)(hn:n+1<=X.N)(hw:Cp.wt X.N e<=1300)(hq:X.fns.length<=q.blocks.length)(hs:znn X (Cp.zaI (X.wk n) X.fr X.fns q e).blocks)(hk:Kn X (X.fr e) q.zac):
  ∃ is,(Cp.zaI (X.wk n) X.fr X.fns q e).code=q.code++is/\∀ {A base F},Ru X A q.zac base F->Ok (X.ri is A) fun A'=>∃ w,Ad A'.h w/\Nx X A A' [w]:=by
 have dD:Cp.Dp X.N e:=by
  rcases hd with hd|⟨_,hd⟩
  ·exact hd.le (by omega)
  ·exact hd.le hn
 have fN:=dD.zea.lo;have own:∀ {A A':Ma} {nd:Nd},A'={ A with fuel:=A.fuel-1,h:=A.h++[nd],st:=A.st++[.ad A.h.length] }->Good X.sys A'->∃ w,Ad A'.h w/\Nx X A A' [w]:=fun {A A' nd} e hg=>⟨.ad A.h.length,⟨_,rfl,by rw[e];simp⟩,by rw[e],by rw[e],hg,by rw[e];exact G.app nd,by rw[e];exact Nat.sub_le _ _⟩
 by_cases h2:e.kind=2
 ·have e1:Cp.zaI (X.wk n) X.fr X.fns q e=q.use X.fns e.tok.s:=by unfold Cp.zaI;rw[if_pos h2]
  have ak:=dD.free;simp only[h2,if_true]at ak;obtain ⟨i,c1,r1⟩:=zuL (X:=X) q (hk e.tok.s (by show e.tok.s∈Cp.free X.N e;rw[ak];simp));exact ⟨[i],by rw[e1,c1];rfl,r1⟩
 ·by_cases h1:e.kind=1
  ·refine ⟨[.num e.n],by unfold Cp.zaI;rw[if_neg h2,if_pos h1];rfl,fun {A _ _} r=>ri1 fun _=>?_⟩;simp only[Ma.step,Ma.zau];exact zgM (.done (own rfl ⟨r.zct.1.app trivial,r.zct.2.1,zyR r.zct.2.2 (by simp)⟩))
  ·by_cases h3:e.kind=3/\e.arity=0
   ·refine ⟨[.pack e.tag 0],by unfold Cp.zaI;rw[if_neg h2,if_neg h1,if_pos h3];rfl,fun {A _ _} r=>ri1 fun _=>?_⟩;have ht:=dD.zea.tag;simp only[Ma.step,Ma.zn5];rw[if_pos ⟨by omega,by omega⟩];refine (zmv (X:=X) (A:={ A with fuel:=A.fuel-1 }) (ws:=[]) (st:=A.st) r.zct (by simp) rfl (by simp) (fun fs e0 h0=>?_)).mono fun A' ⟨fs,_,e2,e3⟩=>own e2 e3
    exact fun f hf=>zyS (h0 f hf) (by simp)
   ·have e1:=Cp.zgX (wk:=X.wk n) (fr:=X.fr) (fns:=X.fns) q h1 h2 h3;have aE:=Cp.zck (X.wk n) X.fr q e;have EI:Kn X (Cp.zai q.zac (X.fr e)) q.zac:=hk.sub fun x hx=>(Cp.zbK.1 hx).1
    obtain ⟨is,u1,u2⟩:=zfF (X:=X) (Cp.zal (X.wk n) X.fr q e).1 (l:=Cp.zai q.zac (X.fr e)) (by rw[aE.1];exact EI);rw[e1,u1]at hs;obtain ⟨n2,k,n3,n4⟩:=zsP (X:=X) (n:=n) (q:=q) (e:=e) (by
     rcases hd with hd|⟨hle,hd⟩
     ·exact .inl hd
     ·exact .inr ⟨by omega,hd⟩) hn hw hq hs hk
    have hb:=n4.lt hX;refine ⟨is++[.close (Cp.zal (X.wk n) X.fr q e).2.1 (Cp.zai q.zac (X.fr e)).length],by rw[e1,u1];simp[Cp.Bs.push,Cp.Bs.drop,aE.2],fun {A _ _} r=>zb3 ((u2 (by rw[aE.1];exact r)).mono fun A1 ⟨ws,w1,w2,w3⟩=>ri1 fun _=>?_)⟩;simp only[Ma.step,Ma.zpH];rw[if_pos ⟨by omega,by omega⟩];refine (zmv (X:=X) (nd:=.clo (Cp.zal (X.wk n) X.fr q e).2.1) (A:={ A1 with fuel:=A1.fuel-1 }) (ws:=ws) (st:=A.st) w3.zct w3.st w1 w2 (fun fs e0 h0=>⟨fun f hf=>zyS (h0 f hf) (by simp),k,by omega,n4⟩)).mono fun A' ⟨fs,_,e2,e3⟩=>?_
    exact ⟨.ad A1.h.length,⟨_,rfl,by rw[e2];simp⟩,by rw[e2],by rw[e2];exact w3.below,e3,by rw[e2];exact w3.g.trans (G.app _),by rw[e2];exact zyR (Nat.sub_le _ _) w3.fuel⟩
end Sf
end Go.Proofs.YtgahgkddaljmkaaGreatDoor
