/- Gc4 .. Gc11 -/
import Derived.Test.YtgahgkddaljmkaaGreatDoorR14
set_option maxRecDepth 100000
set_option maxHeartbeats 4000000
namespace Go.Proofs.YtgahgkddaljmkaaGreatDoor
open Tryz
namespace Ab
variable {P:Nat->Prop} {h:List Nd} {φ:Nat->Option Nat} {st:List Wd} {cq fr0 au half t:Nat} {s:Sto} {C:List Nat} {bY fh:Nat}
theorem GI.raise(G:GI P h φ st cq au half t s C bY fh){lim':Nat}(hle:fh<=lim')(hl:lim'<=s.free)(nT:∀ (i c:Nat) (n:Nd) (j f:Nat),C[i]?=some c->h[c]?=some n->(zdd n)[j]?=some f->pos h au C i+1+j<fh\/lim'<=pos h au C i+1+j):GI P h φ st cq au half t s C bY lim':=by
 refine ⟨G.lw,G.hf,G.tp,G.hv,G.len,G.wl,G.fr,G.tt,G.nd,G.cm,G.old,G.new,?_,G.stk,hl,G.pc⟩;intro i c n j f hc hn hf;obtain ⟨x,g1,g2⟩:=G.fld i c n j f hc hn hf;refine ⟨x,g1,?_⟩;have:=nT i c n j f hc hn hf;by_cases aj:pos h au C i+1+j<fh
 ·rw[if_pos aj]at g2;rw[if_pos (by omega)];exact g2
 ·rw[if_neg aj]at g2;rw[if_neg (by omega)];exact g2
variable {i c:Nat}{n:Nd}
theorem GI.setF(E:Old h φ cq fr0 half st.length){o j f:Nat}{r:Int}(G:GI P h φ st cq au half t s C bY o)(hc:C[i]?=some c)(hn:h[c]?=some n)(hf:(zdd n)[j]?=some f)(ho:o=pos h au C i+1+j)(hr:Rf (phi h au C) h r f):GI P h φ st cq au half t { s with ws:=s.ws.set o r } C bY (o+1):=by
 obtain ⟨f1,f2,f3⟩:=G.zeP E;obtain ⟨q1,q2⟩:=G.zlI hc hn;have gT:=(zyL.1 hf).1;have fD:=zep n;have mi:=G.tt;have bS:∀ j,j≠o->(s.ws.set o r)[j]?=s.ws[j]?:=fun j hj=>by rw[zyV,if_neg (fun e=>hj e.symm)]
 have sw:∀ (i' c':Nat) (n':Nd),C[i']?=some c'->h[c']?=some n'->i'≠i->pos h au C i'+sz n'<=pos h au C i\/pos h au C i+sz n<=pos h au C i':=by
  intro i' c' n' eV gw aH;rcases Nat.lt_or_gt_of_ne aH with aj|aj
  ·left;rw[<-zbB gw];exact zii eV aj
  ·right;rw[<-zbB hn];exact zii hc aj
 refine ⟨G.lw,G.hf,G.tp,G.hv,by simp only[zy6];exact G.len,by simp only[zy6];exact G.wl,G.fr,G.tt,G.nd,G.cm,?_,?_,?_,?_,by simp only;omega,G.pc⟩
 ·intro a p hp ha;obtain ⟨m,e1,e2⟩:=G.old a p hp ha;refine ⟨m,e1,e2.congr (fun j j1 j2=>bS j (fun e=>?_))⟩;exact G.zqJ E hp e1 j j1 j2 (by omega)
 ·intro k c' eV;obtain ⟨p,m,e1,e2,e3,e4,e5⟩:=G.new k c' eV;obtain ⟨p1,p2⟩:=G.zlI eV e2;have hs:=zhd m;have aH:pos h au C k≠o/\(sz m=2->zdd m=[]->pos h au C k+1≠o):=by
   by_cases hk:k=i
   ·subst hk;rw[hc]at eV;cases eV;rw[hn]at e2;cases e2;refine ⟨by omega,fun _ h0=>?_⟩;rw[h0]at hf;simp at hf
   ·have:=sw k c' m eV e2 hk;exact ⟨by omega,fun _ _=>by omega⟩
  refine ⟨p,m,e1,e2,?_,?_,fun v hv=>?_⟩
  ·rw[bS p (fun e=>G.zqJ E e1 e2 p (zyN _) (by omega) (by omega))];exact e3
  ·rw[bS _ aH.1];exact e4
  ·rw[bS _ (aH.2 (by rw[hv];rfl) (by rw[hv];rfl))];exact e5 v hv
 ·intro k c' m j' f' eV hm dr;obtain ⟨x,g1,g2⟩:=G.fld k c' m j' f' eV hm dr;have EE:=(zyL.1 dr).1;have uQ:=zep m;by_cases n8:pos h au C k+1+j'=o
  ·have hk:k=i:=by
    by_cases hk:k=i
    ·exact hk
    ·have:=sw k c' m eV hm hk;omega
   subst hk;rw[hc]at eV;cases eV;rw[hn]at hm;cases hm;have hj:j'=j:=by omega
   subst hj;rw[hf]at dr;cases dr;refine ⟨r,?_,by rw[if_pos (by omega)];exact hr⟩;simp only;rw[n8,zyV,if_pos rfl,if_pos (by omega)]
  ·refine ⟨x,by simp only;rw[bS _ n8];exact g1,?_⟩;by_cases aj:pos h au C k+1+j' < o
   ·rw[if_pos aj]at g2;rw[if_pos (by omega)];exact g2
   ·rw[if_neg aj]at g2;rw[if_neg (by omega)];exact g2
 ·intro k w hw;have nS:=(zyL.1 hw).1;obtain ⟨x,g1,g2⟩:=G.stk k w hw;exact ⟨x,by simp only;rw[bS _ (by omega)];exact g1,g2⟩
theorem zld(E:Old h φ cq fr0 half st.length){i c:Nat}{n:Nd}(hn:h[c]?=some n)(hP:∀ f∈zdd n,P (can h f)):∀ (k j:Nat) (s:Sto) (C:List Nat),C[i]?=some c->GI P h φ st cq au half t s C bY (pos h au C i+1+j)->j+k=(zdd n).length ->
  ∃ s' D,s.zfI (pos h au C i+1+j) k=some s'/\GI P h φ st cq au half t s' (C++D) bY (pos h au C i+1+(zdd n).length)
 |0,j,s,C,hc,G,hj=>⟨s,[],rfl,by rw[zzS,<-hj];exact G⟩
 |k+1,j,s,C,hc,G,hj=>by
  obtain ⟨f,hf⟩:∃ f,(zdd n)[j]?=some f:=⟨_,zyM (by omega)⟩;obtain ⟨x,g1,g2⟩:=G.fld i c n j f hc hn hf;rw[if_neg (by omega)]at g2;obtain ⟨cX,r,s1,D,c1,c2,c3,c4⟩:=zmc E G g2 (hP f (zy1 hf));rw[Sto.zfI,g1];simp only;rw[if_neg (by omega),c1];simp only;have br:=(zyL.1 hc).1;have bp:pos h au (C++D) i=pos h au C i:=zjB (zAk br);have bT:(C++D)[i]?=some c:=by rw[zzc br];exact hc
  have G2:=c2.setF E bT hn hf (by rw[bp]) c3;have DV:GI P h φ st cq au half t { s1 with ws:=s1.ws.set (pos h au C i+1+j) r } (C++D) bY (pos h au (C++D) i+1+(j+1)):=by rw[bp];exact G2
  obtain ⟨s',D',d1,d2⟩:=zld E hn hP k (j+1) _ (C++D) bT DV (by omega);rw[bp]at d1 d2;exact ⟨s',D++D',d1,by rw[<-zzk];exact d2⟩
theorem zqQ(E:Old h φ cq fr0 half st.length)(hP:∀ (c:Nat) (n:Nd) (f:Nat),P c->h[c]?=some n->f∈zdd n->P (can h f)):∀ (fuel k:Nat) (s:Sto) (C:List Nat),GI P h φ st cq au half t s C bY (pos h au C k)->k<=C.length->t+1<=pos h au C k+fuel ->
  ∃ s' D,s.scan (pos h au C k) fuel=some s'/\GI P h φ st cq au half t s' (C++D) bY s'.free
 |0,k,s,C,G,hk,hf=>by
  have:=G.lm;have:=G.zeP E;omega
 |fuel+1,k,s,C,G,hk,hf=>by
  obtain ⟨f1,f2,f3⟩:=G.zeP E;rw[Sto.scan];by_cases aj:k<C.length
  ·obtain ⟨c,hc⟩:∃ c,C[k]?=some c:=⟨_,zyM aj⟩;obtain ⟨p,n,e1,e2,e3,e4,e5⟩:=G.new k c hc;obtain ⟨q1,q2⟩:=G.zlI hc e2;have hs:=zhd n;have Fa:=zep n;obtain ⟨_,n',_,e6,gr⟩:=G.cm c (zy1 hc);rw[e2]at e6;cases e6;have bU:=E.ok c n e2;obtain ⟨r1,r2⟩:=zde bU;have xr:=ztf bU gr;have xl:=zlr bU gr;have mi:=G.tt;rw[if_pos (by omega),e4];simp only;rw[xr,if_neg (by omega)];have nT:∀ (i c':Nat) (n':Nd) (j f:Nat),C[i]?=some c'->h[c']?=some n'->(zdd n')[j]?=some f->pos h au C i+1+j<pos h au C k\/pos h au C k+1+0<=pos h au C i+1+j:=by
    intro i c' n' j f eV gw dr;have gT:=(zyL.1 dr).1;have fD:=zep n';by_cases oZ:i<k
    ·left;have:=zii (h:=h) (base:=au) eV oZ;rw[zbB gw]at this;omega
    ·right;have:pos h au C k<=pos h au C i:=zfC (by omega);omega
   have G1:=G.raise (lim':=pos h au C k+1+0) (by omega) (by omega) nT;obtain ⟨s1,D,d1,d2⟩:=zld E e2 (fun f hf=>hP c n f (G.pc c (zy1 hc)) e2 hf) (zdd n).length 0 s C hc G1 (by omega);rw[zzO]at d1;rw[d1];simp only;have bp:pos h au (C++D) k=pos h au C k:=zjB hk;have bT:(C++D)[k]?=some c:=by rw[zzc aj];exact hc
   obtain ⟨p',n',g1,g2,g3,g4,g5⟩:=d2.new k c bT;rw[e2]at g2;cases g2;rw[bp]at g4;rw[g4];simp only;rw[if_neg (by omega)];have sK:pos h au C k+1+behind (hdr n)=pos h au (C++D) (k+1):=by
    rw[ziS bT,bp,zbB e2];omega
   rw[sK];have bZ:=d2.zeP E;have sQ:pos h au (C++D) (k+1)=pos h au C k+sz n:=by rw[ziS bT,bp,zbB e2]
   have hle:pos h au (C++D) (k+1)<=s1.free:=by rw[d2.fr];exact zfC (by simp;omega)
   have xQ:∀ (i c':Nat) (n':Nd) (j f:Nat),(C++D)[i]?=some c'->h[c']?=some n'->(zdd n')[j]?=some f->pos h au (C++D) i+1+j<pos h au C k+1+(zdd n).length\/pos h au (C++D) (k+1)<=pos h au (C++D) i+1+j:=by
    intro i c' n' j f eV gw dr;have gT:=(zyL.1 dr).1;have fD:=zep n';rcases Nat.lt_trichotomy i k with oZ|oZ|oZ
    ·left;have:=zii (h:=h) (base:=au) eV oZ;rw[zbB gw,bp]at this;omega
    ·left;subst oZ;rw[bT]at eV;cases eV;rw[e2]at gw;cases gw;rw[bp];omega
    ·right;have:pos h au (C++D) (k+1)<=pos h au (C++D) i:=zfC oZ;omega
   have G3:=d2.raise (lim':=pos h au (C++D) (k+1)) (by omega) hle xQ;obtain ⟨s',D',m1,m2⟩:=zqQ E hP fuel (k+1) s1 (C++D) G3 (by simp;omega) (by omega);exact ⟨s',D++D',m1,by rw[<-zzk];exact m2⟩
  ·have nS:k=C.length:=by omega
   have uP:pos h au C k=s.free:=by rw[nS,G.fr]
   rw[uP,if_neg (by omega)];refine ⟨s,[],rfl,?_⟩;rw[zzS];rw[uP]at G;exact G
inductive Reach (h:List Nd) (st:List Wd) (fns:List Nat):Nat->Prop where
 |stk {i a:Nat}:st[i]?=some (.ad a)->Reach h st fns (can h a)
 |fn {a:Nat}:a∈fns->Reach h st fns (can h a)
 |fld {c:Nat} {n:Nd} {f:Nat}:Reach h st fns c->h[c]?=some n->f∈zdd n->Reach h st fns (can h f)
variable {fc:List Int}{fns:List Nat}
theorem zpj(R:Rel s fc h st fns φ):∃ kd s' C,s.collect fc=some (kd,s')/\Rel s' kd h st fns (phi h s'.low C)/\s'.half=s.half/\s'.ws.length=s.ws.length/\C.Nodup/\(∀ c∈C,Reach h st fns c)/\s'.free=s'.low+(C.map (zkL h)).sum/\∀ c∈C,∃ n,h[c]?=some n/\zaV n=false:=by
 have sF:=R.low;have hlen:=R.len;have eE:=R.wl;have uM:=R.lf;have iY:=R.ft;have fg:=R.tp;obtain ⟨au,xJ⟩:∃ au,au=s.half-s.low:=⟨_,rfl⟩;obtain ⟨t,ht⟩:∃ t,t=au+s.half-st.length:=⟨_,rfl⟩;have hn:s.low+s.half-s.top=st.length:=by omega
 have cu:t+st.length=au+s.half:=by omega
 have E:Old h φ s.low s.free s.half st.length:=⟨fun a p hp=>by
  obtain ⟨nd,a1,a2,a3,_⟩:=R.nod a p hp;exact ⟨nd,a1,a2,a3⟩,R.dis,R.ok,R.fw,by omega,uM⟩
 have hv:(s.low=0/\au=s.half)\/(s.low=s.half/\au=0):=by omega
 have Fb:s.zbR={ s with low:=au,free:=au,top:=t,ws:=Go.splice s.ws t ((s.ws.drop s.top).take st.length) }:=by
  unfold Sto.zbR;simp only[hn];rw[<-xJ,<-ht]
 have aN:((s.ws.drop s.top).take st.length).length=st.length:=by rw[zzf,zzu];omega
 have ng:t+st.length<=s.ws.length:=by omega
 have aK:(Go.splice s.ws t ((s.ws.drop s.top).take st.length)).length=s.ws.length:=zzM _ _ _ (by rw[aN];exact ng);have aY:∀ j,(Go.splice s.ws t ((s.ws.drop s.top).take st.length))[j]?=if t<=j/\j<au+s.half then s.ws[s.top+(j-t)]? else s.ws[j]?:=by
  intro j;rw[zbu _ _ _ _ (by rw[aN];exact ng),aN];by_cases h1:j<t
  ·rw[if_pos h1,if_neg (by omega)]
  ·rw[if_neg h1];by_cases h2:j<t+st.length
   ·rw[if_pos h2,if_pos (by omega),zzy,if_pos (by omega),zzx]
   ·rw[if_neg h2,if_neg (by omega)]
 have G0:GI (Reach h st fns) h φ st s.low au s.half t { s with low:=au,free:=au,top:=t,ws:=Go.splice s.ws t ((s.ws.drop s.top).take st.length) } [] t au:=by
  refine ⟨rfl,rfl,rfl,hv,by simp only;omega,by simp only;omega,by simp[pos],cu,by simp,by simp,?_,by simp,by simp,?_,zyN _,by simp⟩
  ·intro a p hp _;obtain ⟨nd,a1,a2,a3,a4⟩:=R.nod a p hp;refine ⟨nd,a1,a4.congr (fun j j1 j2=>?_)⟩;simp only;rw[aY,if_neg (by omega)]
  ·intro i w hw;have br:=(zyL.1 hw).1;obtain ⟨x,x1,x2⟩:=R.stk i w hw;refine ⟨x,?_,by rw[if_neg (by omega)];exact x2⟩;simp only;rw[aY,if_pos (by omega),show s.top+(au+s.half-1-i-t)=s.low+s.half-1-i by omega];exact x1
 have DX:∀ (i a:Nat),st[i]?=some (.ad a)->Reach h st fns (can h a):=fun i a ha=>.stk ha
 obtain ⟨s1,D1,b1,G1⟩:=zgk E DX st.length t _ [] G0 cu (zyN _);obtain ⟨kd,s2,D2,b2,G2,f1,f2⟩:=znv E fc fns s1 ([]++D1) G1 R.fl R.fn (fun a ha=>Reach.fn ha);have xU:pos h au ([]++D1++D2) 0=au:=by simp[pos]
 have Ft:=G2.len;obtain ⟨s3,D3,b3,G3⟩:=zqQ E (fun c n f hc hn hf=>Reach.fld hc hn hf) (s2.ws.length+1) 0 s2 ([]++D1++D2) (by rw[xU];exact G2) (zy5 _) (by rw[xU];have:=(G2.zeP E).2.2;omega);rw[xU]at b3;obtain ⟨C,hC⟩:∃ C,C=[]++D1++D2++D3:=⟨_,rfl⟩;rw[<-hC]at G3;have nM:s.collect fc=some (kd,s3):=by
  unfold Sto.collect;rw[if_pos ⟨by omega,hlen,by omega,by omega⟩,Fb];simp only;rw[show au+s.half-t=st.length by omega,b1];simp only;rw[b2];simp only;rw[G2.lw,b3]
 obtain ⟨q1,q2,q3⟩:=G3.zeP E;have o9:∀ a p,phi h au C a=some p->∃ i n,C[i]?=some a/\p=pos h au C i/\h[a]?=some n/\zaV n=false:=by
  intro a p hp;unfold phi at hp;split at hp
  ·next hm=>
   cases hp;have lg:C[C.idxOf a]?=some a:=by rw[zyM (zzF hm),List.getElem_idxOf]
   obtain ⟨_,n,_,e2,e3⟩:=G3.cm a hm;exact ⟨_,n,lg,rfl,e2,e3⟩
  ·cases hp
 refine ⟨kd,s3,C,nM,?_,G3.hf,zli nM,G3.nd,G3.pc,?_,fun c hc=>?_⟩
 ·rw[G3.lw];refine ⟨by rw[G3.lw,G3.hf];omega,by rw[G3.hf];exact G3.len,G3.wl,by rw[G3.lw];exact q1,by rw[G3.tp];exact q2,by rw[G3.tp,G3.lw,G3.hf];exact cu,?_,f1,?_,?_,?_,R.ok,R.fw⟩
  ·intro i w hw;have br:=(zyL.1 hw).1;obtain ⟨x,x1,x2⟩:=G3.stk i w hw;rw[if_pos (by omega)]at x2;exact ⟨x,by rw[G3.lw,G3.hf];exact x1,x2⟩
  ·intro i a ha;obtain ⟨x,x1,x2⟩:=f2 i a ha;exact ⟨x,x1,by rw[hC];exact x2.app⟩
  ·intro a p hp;obtain ⟨i,n,e1,e2,e3,e4⟩:=o9 a p hp;obtain ⟨p1,p2⟩:=G3.zlI e1 e3;obtain ⟨_,n',_,g2,_,g4,g5⟩:=G3.new i a e1;rw[e3]at g2;cases g2;refine ⟨n,e3,by rw[G3.lw,e2];exact p1,by rw[e2];exact p2,.inr ⟨e4,by rw[e2];exact g4,fun v hv=>by rw[e2];exact g5 v hv,fun j f hf=>?_⟩⟩;obtain ⟨x,x1,x2⟩:=G3.fld i a n j f e1 e3 hf;have gT:=(zyL.1 hf).1;have fD:=zep n;rw[if_pos (by omega)]at x2;exact ⟨x,by rw[e2];exact x1,x2⟩
  ·intro a a' p p' n n' hp lu hn gw aH;obtain ⟨i,m,e1,e2,e3,e4⟩:=o9 a p hp;obtain ⟨i',m',oJ,DG,Gg,Gh⟩:=o9 a' p' lu;have EB:i≠i':=fun e=>by
    subst e;rw[e1]at oJ;cases oJ;exact aH rfl
   rw[e2,DG];rcases Nat.lt_or_gt_of_ne EB with aj|aj
   ·left;rw[<-zbB hn];exact zii e1 aj
   ·right;rw[<-zbB gw];exact zii oJ aj
 ·rw[G3.lw,G3.fr];unfold pos;rw[zz7]
 ·obtain ⟨_,n,_,e2,e3⟩:=G3.cm c hc;exact ⟨n,e2,e3⟩
structure Ma where
 h:List Nd
 st:List Wd
 fns:List Nat
 fuel:Nat
 next:Int
 below:Int
def Fits (hf:Nat) (A:Ma) (k:Nat):Prop:=∀ C:List Nat,C.Nodup->(∀ c∈C,Reach A.h A.st A.fns c)->(C.map (zkL A.h)).sum+A.st.length+k<=hf
open Classical in
def val (sl:List Nat):Nd->Prop
 |.num _=>True
 |.data _ _=>True
 |.clo b fs=>∃ n,sl[b]?=some n/\fs.length<n
 |_=>False
variable {sl:List Nat}
theorem zxZ(h:val sl n):zaV n=false:=by cases n <;> first|rfl|exact h.elim
structure MR (sl:List Nat) (hf:Nat) (m:MSt) (A:Ma) (φ:Nat->Option Nat):Prop where
 rel:Rel m.s m.fns A.h A.st A.fns φ
 half:m.s.half=hf
 fuel:m.o.fuel=A.fuel
 next:m.o.next=A.next
 below:m.o.below=A.below
 vi:∀ (a b:Nat),A.h[a]?=some (.fwd b)->∃ nd,A.h[b]?=some nd/\val sl nd
variable {s:Sto}{h:List Nd}{st:List Wd}{φ:Nat->Option Nat}{x:Int}{a:Nat}
theorem ztX(R:Rel s fc h st fns φ)(hr:Rf φ h x a):∃ p n,φ (can h a)=some p/\h[can h a]?=some n/\zaV n=false:=by
 obtain ⟨p,rfl,hp⟩:=hr;rcases hp with hp|⟨b,hb,hp⟩
 ·obtain ⟨n,hn,_,_,aV⟩:=R.nod a p hp;rcases aV with ⟨b,p',rfl,h2,_⟩|⟨h1,_⟩
  ·rw[zgl hn];obtain ⟨nd,g1,g2⟩:=R.fw a b hn;exact ⟨p',nd,h2,g1,g2⟩
  ·rw[zdc hn h1];exact ⟨p,n,hp,hn,h1⟩
 ·rw[zgl hb];obtain ⟨nd,g1,g2⟩:=R.fw a b hb;exact ⟨p,nd,hp,g1,g2⟩
theorem zjG(R:Rel s fc h st fns φ)(hc:Reach h st fns c):∃ p n,φ c=some p/\h[c]?=some n/\zaV n=false:=by
 induction hc with
 |stk hi=>
  obtain ⟨x,_,hr⟩:=R.stk _ _ hi;exact ztX R hr
 |fn ha=>
  obtain ⟨i,hi⟩:=List.mem_iff_getElem?.1 ha;obtain ⟨x,_,hr⟩:=R.fn i _ hi;exact ztX R hr
 |fld _ hn hf ih=>
  obtain ⟨p,n',e1,e2,e3⟩:=ih;rw[hn]at e2;cases e2;obtain ⟨n',g1,_,_,aV⟩:=R.nod _ p e1;rw[hn]at g1;cases g1;obtain ⟨i,hi⟩:=List.mem_iff_getElem?.1 hf;rcases aV with ⟨b,p',h1,_⟩|⟨_,_,_,h4⟩
  ·rw[h1]at e3;simp[zaV]at e3
  ·obtain ⟨x,_,hr⟩:=h4 i _ hi;exact ztX R hr
theorem zlJ(R:Rel s fc h st fns φ){C:List Nat}(hC:C.Nodup)(hr:∀ c∈C,Reach h st fns c):(C.map (zkL h)).sum<=s.free-s.low:=by
 have h1:=ztZ s.low s.free (C.map fun c=>((φ c).getD 0,zkL h c)) (fun x hx=>by
  obtain ⟨c,hc,rfl⟩:=zz1.1 hx;obtain ⟨p,n,e1,e2,_⟩:=zjG R (hr c hc);obtain ⟨n',e3,e4,e5,_⟩:=R.nod c p e1;rw[e2]at e3;cases e3;simp only[e1,zAs,zbB e2];exact ⟨e4,e5⟩) (by
  rw[List.pairwise_map];refine List.Pairwise.imp_of_mem (fun {a b} ha hb aH=>?_) hC;obtain ⟨p,n,e1,e2,_⟩:=zjG R (hr a ha);obtain ⟨p',n',e3,e4,_⟩:=zjG R (hr b hb);simp only[e1,e3,zAs,zbB e2,zbB e4];exact R.dis a b p p' n n' e1 e3 e2 e4 aH)
 rw[List.map_map]at h1;exact h1
variable {hf k:Nat}{m:MSt}{A:Ma}
theorem zvU(M:MR sl hf m A φ):
  (Fits hf A k/\∃ m' φ',m.zdI k=some (.ok m')/\MR sl hf m' A φ'/\m'.s.free+k<=m'.s.top/\m'.o=m.o)\/(¬ Fits hf A k/\m.zdI k=some (.error 4)):=by
 have uM:=M.rel.lf;have iY:=M.rel.ft;have fg:=M.rel.tp;have hh:=M.half;unfold MSt.zdI;by_cases hc:(k:Int)<=(m.s.top:Int)-(m.s.free:Int)
 ·rw[if_pos hc];left;refine ⟨fun C h1 h2=>?_,m,φ,rfl,M,by omega,rfl⟩;have:=zlJ M.rel h1 h2;omega
 ·rw[if_neg hc];obtain ⟨kd,s',C,c1,c2,c3,c4,c5,c6,c7,c8⟩:=zpj M.rel;rw[c1];simp only;have EP:=c2.lf;have Eu:=c2.ft;have Ff:=c2.tp;by_cases hd:(s'.top:Int)-(s'.free:Int)<(k:Int)
  ·rw[if_pos hd];right;refine ⟨fun aJ=>?_,rfl⟩;have:=aJ C c5 c6;omega
  ·rw[if_neg hd];left;refine ⟨fun C' h1 h2=>?_,_,phi A.h s'.low C,rfl,⟨c2,by simp only;omega,M.fuel,M.next,M.below,M.vi⟩,by simp only;omega,rfl⟩;have:=zlJ c2 h1 h2;omega
variable {s:Sto} {fc:List Int} {h:List Nd} {st:List Wd} {fns:List Nat} {φ:Nat->Option Nat}{ws':List Int}
theorem Rel.zeV(R:Rel s fc h st fns φ){top':Nat}{st':List Wd}(hl:ws'.length=s.ws.length)(hk:∀ j,s.low<=j->j<s.free->ws'[j]?=s.ws[j]?)(iY:s.free<=top')(fg:top'+st'.length=s.low+s.half)(dY:∀ (i:Nat) (w:Wd),st'[i]?=some w->∃ x,ws'[s.low+s.half-1-i]?=some x/\RW φ h x w):Rel { s with ws:=ws',top:=top' } fc h st' fns φ:=by
 refine ⟨R.low,by simp only;rw[hl];exact R.len,by simp only;rw[hl];exact R.wl,R.lf,iY,fg,dY,R.fl,R.fn,?_,R.dis,R.ok,R.fw⟩;intro a p hp;obtain ⟨nd,h1,h2,h3,h4⟩:=R.nod a p hp;exact ⟨nd,h1,h2,h3,h4.congr (fun j j1 j2=>hk j (by omega) (by omega))⟩
variable {φ':Nat->Option Nat}{h':List Nd}
theorem Rf.mono(h1:∀ a p,φ a=some p->φ' a=some p)(h2:∀ (a b:Nat),h[a]?=some (.fwd b)->h'[a]?=some (.fwd b))(hr:Rf φ h x a):Rf φ' h' x a:=by
 obtain ⟨p,e,hp⟩:=hr;refine ⟨p,e,?_⟩;rcases hp with hp|⟨b,hb,hp⟩
 ·exact .inl (h1 a p hp)
 ·exact .inr ⟨b,h2 a b hb,h1 b p hp⟩
theorem RW.mono{φ φ':Nat->Option Nat}{h h':List Nd}(h1:∀ a p,φ a=some p->φ' a=some p)(h2:∀ (a b:Nat),h[a]?=some (.fwd b)->h'[a]?=some (.fwd b)){x:Int}{w:Wd}(hr:RW φ h x w):RW φ' h' x w:=by
 cases w with
 |ad a=>exact Rf.mono h1 h2 hr
 |mk k b=>exact hr
theorem At.mono{ws:List Int}{φ φ':Nat->Option Nat}{h h':List Nd}(h1:∀ a p,φ a=some p->φ' a=some p)(h2:∀ (a b:Nat),h[a]?=some (.fwd b)->h'[a]?=some (.fwd b)){p:Nat}{nd:Nd}(ha:At ws φ h p nd):At ws φ' h' p nd:=by
 rcases ha with ⟨b,p',e1,e2,e3⟩|⟨e1,e2,e3,e4⟩
 ·exact .inl ⟨b,p',e1,h1 b p' e2,e3⟩
 ·refine .inr ⟨e1,e2,e3,fun i f hf=>?_⟩;obtain ⟨x,x1,x2⟩:=e4 i f hf;exact ⟨x,x1,x2.mono h1 h2⟩
def grow (φ:Nat->Option Nat) (n p:Nat):Nat->Option Nat:=fun a=>if a=n then some p else φ a
theorem Rel.grown(R:Rel s fc h st fns φ)(p:Nat):∀ a q,φ a=some q->grow φ h.length p a=some q:=by
 intro a q hq;obtain ⟨nd,h1,_⟩:=R.nod a q hq;have:=(zyL.1 h1).1;unfold grow;rw[if_neg (by omega)];exact hq
variable {nd:Nd}
theorem zhE :∀ (a b:Nat),h[a]?=some (.fwd b)->(h++[nd])[a]?=some (.fwd b):=by
 intro a b hb;rw[zzc (zyL.1 hb).1];exact hb
theorem Rel.alloc(R:Rel s fc h st fns φ)(bU:zo6 nd)(hf:zaV nd=false)(ew:s.free+sz nd<=s.top)(hl:ws'.length=s.ws.length)(hk:∀ j,(j<s.free\/s.free+sz nd<=j)->ws'[j]?=s.ws[j]?)(aV:AtC ws' (Rf (grow φ h.length s.free) (h++[nd])) s.free nd):Rel { s with ws:=ws',free:=s.free+sz nd } fc (h++[nd]) st fns (grow φ h.length s.free):=by
 have hg:=R.grown s.free;have gU:(h++[nd])[h.length]?=some nd:=by simp
 have fg:=R.tp;have jE:∀ a p,grow φ h.length s.free a=some p->(a=h.length/\p=s.free)\/φ a=some p:=by
  intro a p hp;unfold grow at hp;split at hp
  ·next e=>cases hp;exact .inl ⟨e,rfl⟩
  ·exact .inr hp
 have hold:∀ (a:Nat) (n:Nd),(h++[nd])[a]?=some n->(a=h.length/\n=nd)\/h[a]?=some n:=by
  intro a n hn;rw[zzj]at hn;split at hn
  ·exact .inr hn
  ·next nO=>
   have:=(zyL.1 hn).1;simp at this;have h1:a-h.length=0:=by omega
   rw[h1]at hn;simp at hn;exact .inl ⟨by omega,hn.symm⟩
 refine ⟨R.low,by simp only;rw[hl];exact R.len,by simp only;rw[hl];exact R.wl,by simp only;have:=R.lf;omega,ew,R.tp,?_,R.fl,?_,?_,?_,?_,?_⟩
 ·intro i w hw;have br:=(zyL.1 hw).1;obtain ⟨x,x1,x2⟩:=R.stk i w hw;exact ⟨x,by simp only;rw[hk _ (by omega)];exact x1,x2.mono hg zhE⟩
 ·intro i a ha;obtain ⟨x,x1,x2⟩:=R.fn i a ha;exact ⟨x,x1,x2.mono hg zhE⟩
 ·intro a p hp;rcases jE a p hp with ⟨rfl,rfl⟩|hp
  ·exact ⟨nd,gU,R.lf,zyN _,.inr ⟨hf,aV⟩⟩
  ·obtain ⟨n,h1,h2,h3,h4⟩:=R.nod a p hp;refine ⟨n,by rw[zzc (zyL.1 h1).1];exact h1,h2,by simp only;omega,?_⟩;exact (h4.congr (fun j j1 j2=>hk j (by omega))).mono hg zhE
 ·intro a a' p p' n n' hp lu hn gw aH;rcases jE a p hp with ⟨rfl,rfl⟩|hp
  ·rcases jE a' p' lu with ⟨rfl,rfl⟩|lu
   ·exact absurd rfl aH
   ·obtain ⟨m,h1,h2,h3,h4⟩:=R.nod a' p' lu;rcases hold a' n' gw with ⟨e,_⟩|gw
    ·exact absurd e.symm aH
    ·rw[h1]at gw;cases gw;exact .inr h3
  ·obtain ⟨m,h1,h2,h3,h4⟩:=R.nod a p hp;rcases hold a n hn with ⟨e,_⟩|hn
   ·have:=(zyL.1 h1).1;omega
   ·rw[h1]at hn;cases hn;rcases jE a' p' lu with ⟨rfl,rfl⟩|lu
    ·exact .inl h3
    ·rcases hold a' n' gw with ⟨e,_⟩|gw
     ·obtain ⟨m',g1,_⟩:=R.nod a' p' lu;have:=(zyL.1 g1).1;omega
     ·exact R.dis a a' p p' n n' hp lu h1 gw aH
 ·intro a n hn;rcases hold a n hn with ⟨_,rfl⟩|hn
  ·exact bU
  ·exact R.ok a n hn
 ·intro a b hb;rcases hold a _ hb with ⟨_,e⟩|hb
  ·rw[<-e]at hf;simp[zaV]at hf
  ·obtain ⟨m,g1,g2⟩:=R.fw a b hb;exact ⟨m,by rw[zzc (zyL.1 g1).1];exact g1,g2⟩
variable {p:Nat}{nd':Nd}
theorem Rel.zxM(R:Rel s fc h st fns φ)(hp:φ a=some p)(hn:h[a]?=some nd)(jZ:zaV nd=false)(bU:zo6 nd')(hs:sz nd'<=sz nd)(hl:ws'.length=s.ws.length)(hk:∀ j,(j<p\/p+sz nd<=j)->ws'[j]?=s.ws[j]?)(aV:At ws' φ (h.set a nd') p nd')(gr:zaV nd'=true->∀ (x b:Nat),h[x]?=some (.fwd b)->b≠a)(xA:∀ b,nd'=.fwd b->b≠a/\∃ n,h[b]?=some n/\zaV n=false):Rel { s with ws:=ws' } fc (h.set a nd') st fns φ:=by
 have aU:=(zyL.1 hn).1;have fg:=R.tp;have iY:=R.ft;obtain ⟨GU,q1,q2,q3,q4⟩:=R.nod a p hp;rw[hn]at q1;cases q1;have dC:∀ (c b:Nat),h[c]?=some (.fwd b)->(h.set a nd')[c]?=some (.fwd b):=by
  intro c b hb;rw[zyV,if_neg (fun e=>by subst e;rw[hn]at hb;cases hb;simp[zaV]at jZ)];exact hb
 have aY:∀ (c:Nat) (n:Nd),(h.set a nd')[c]?=some n->(c=a/\n=nd')\/(c≠a/\h[c]?=some n):=by
  intro c n hc;rw[zyV]at hc;by_cases e:a=c
  ·rw[if_pos e,if_pos aU]at hc;cases hc;exact .inl ⟨e.symm,rfl⟩
  ·rw[if_neg e]at hc;exact .inr ⟨fun x=>e x.symm,hc⟩
 have hm:∀ c q,φ c=some q->φ c=some q:=fun _ _ x=>x
 refine ⟨R.low,by simp only;rw[hl];exact R.len,by simp only;rw[hl];exact R.wl,R.lf,R.ft,R.tp,?_,R.fl,?_,?_,?_,?_,?_⟩
 ·intro i w hw;have br:=(zyL.1 hw).1;obtain ⟨x,x1,x2⟩:=R.stk i w hw;exact ⟨x,by simp only;rw[hk _ (by omega)];exact x1,x2.mono hm dC⟩
 ·intro i c hc;obtain ⟨x,x1,x2⟩:=R.fn i c hc;exact ⟨x,x1,x2.mono hm dC⟩
 ·intro c q hq;by_cases e:c=a
  ·subst e;rw[hp]at hq;cases hq;exact ⟨nd',by rw[zyV,if_pos rfl,if_pos aU],q2,by simp only;omega,aV⟩
  ·obtain ⟨n,h1,h2,h3,h4⟩:=R.nod c q hq;have hd:=R.dis c a q p n nd hq hp h1 hn e;refine ⟨n,by rw[zyV,if_neg (fun x=>e x.symm)];exact h1,h2,h3,(h4.congr (fun j j1 j2=>hk j (by omega))).mono hm dC⟩
 ·intro c c' q q' n n' hq lx hc eV aH;rcases aY c n hc with ⟨e1,e2⟩|⟨e,bH⟩
  ·subst e1 e2;rcases aY c' n' eV with ⟨e3,_⟩|⟨e',bT⟩
   ·exact absurd e3.symm aH
   ·have h9:=R.dis c c' q q' nd n' hq lx hn bT aH;rw[hp]at hq;cases hq;omega
  ·rcases aY c' n' eV with ⟨e3,e4⟩|⟨e',bT⟩
   ·subst e3 e4;have h9:=R.dis c c' q q' n nd hq lx bH hn aH;omega
   ·exact R.dis c c' q q' n n' hq lx bH bT aH
 ·intro c n hc;rcases aY c n hc with ⟨_,rfl⟩|⟨_,hc⟩
  ·exact bU
  ·exact R.ok c n hc
 ·intro c b hb;rcases aY c _ hb with ⟨_,e⟩|⟨_,aA⟩
  ·obtain ⟨h1,n,h2,h3⟩:=xA b e.symm;exact ⟨n,by rw[zyV,if_neg (fun x=>h1 x.symm)];exact h2,h3⟩
  ·obtain ⟨n,h2,h3⟩:=R.fw c b aA;by_cases e:b=a
   ·refine ⟨nd',by rw[e,zyV,if_pos rfl,if_pos aU],?_⟩;cases hx:zaV nd' with
    |false=>rfl
    |true=>exact absurd e (gr hx c b aA)
   ·exact ⟨n,by rw[zyV,if_neg (fun x=>e x.symm)];exact h2,h3⟩
variable {s:Sto} {fc:List Int} {h:List Nd} {st:List Wd} {fns:List Nat} {φ:Nat->Option Nat}
theorem Rel.hi(R:Rel s fc h st fns φ):s.low+s.half<=s.ws.length:=by
 have h1:=R.low;have h2:=R.len;omega
theorem Rel.word(R:Rel s fc h st fns φ){d:Nat}(hd:d<st.length):∃ w x,st[st.length-1-d]?=some w/\s.ws[s.top+d]?=some x/\RW φ h x w:=by
 have fg:=R.tp;obtain ⟨w,hw⟩:∃ w,st[st.length-1-d]?=some w:=⟨_,zyM (by omega)⟩;obtain ⟨x,x1,x2⟩:=R.stk _ w hw;rw[show s.low+s.half-1-(st.length-1-d)=s.top+d by omega]at x1;exact ⟨w,x,hw,x1,x2⟩
variable {w:Wd}
theorem zc5(R:Rel s fc h st fns φ)(ew:s.free+1<=s.top)(hw:RW φ h x w):s.push x=some { s with top:=s.top-1,ws:=s.ws.set (s.top-1) x }/\Rel { s with top:=s.top-1,ws:=s.ws.set (s.top-1) x } fc h (st++[w]) fns φ:=by
 have fg:=R.tp;have gS:=R.hi;refine ⟨?_,?_⟩
 ·unfold Sto.push;rw[if_pos (by omega)]
 ·refine R.zeV (ws':=s.ws.set (s.top-1) x) (top':=s.top-1) (by simp) (fun j h1 h2=>by rw[zyV,if_neg (by omega)]) (by omega) (by simp;omega) (fun i w' fY=>?_);rw[zzj]at fY;split at fY
  ·next br=>
   obtain ⟨y,y1,y2⟩:=R.stk i w' fY;exact ⟨y,by rw[zyV,if_neg (by omega)];exact y1,y2⟩
  ·next br=>
   have:=(zyL.1 fY).1;simp at this;have h1:i-st.length=0:=by omega
   rw[h1]at fY;simp at fY;subst fY;refine ⟨x,?_,hw⟩;rw[show s.low+s.half-1-i=s.top-1 by omega,zyV,if_pos rfl,if_pos (by omega)]
theorem zhQ(R:Rel s fc h st fns φ)(hc:c<=st.length):s.pop c=some { s with top:=s.top+c }/\Rel { s with top:=s.top+c } fc h (st.take (st.length-c)) fns φ:=by
 have fg:=R.tp;have gS:=R.hi;have eE:=R.wl;have iY:=R.ft;refine ⟨?_,?_⟩
 ·unfold Sto.pop;rw[if_pos (by omega)]
 ·refine R.zeV (ws':=s.ws) (top':=s.top+c) rfl (fun j _ _=>rfl) (by omega) (by rw[zzf];omega) (fun i w hw=>?_);rw[zzy]at hw;split at hw
  ·exact R.stk i w hw
  ·cases hw
theorem zmy(R:Rel s fc h st fns φ){xs:List Int}(bU:zo6 nd)(hf:zaV nd=false)(ew:s.free+sz nd<=s.top)(dk:xs.length+1=sz nd)(xS:∀ v,nd=.num v->xs[0]?=some v)(bZ:∀ (i f:Nat),(zdd nd)[i]?=some f->∃ x,xs[i]?=some x/\Rf (grow φ h.length s.free) (h++[nd]) x f):
  s.node (hdr nd) xs=some { s with free:=s.free+sz nd,ws:=Go.splice (s.ws.set s.free (hdr nd)) (s.free+1) xs }/\Rel { s with free:=s.free+sz nd,ws:=Go.splice (s.ws.set s.free (hdr nd)) (s.free+1) xs } fc (h++[nd]) st fns (grow φ h.length s.free):=by
 have fg:=R.tp;have gS:=R.hi;have aK:(Go.splice (s.ws.set s.free (hdr nd)) (s.free+1) xs).length=s.ws.length:=by rw[zzM _ _ _ (by rw[zy6];omega),zy6]
 have aY:∀ j,(Go.splice (s.ws.set s.free (hdr nd)) (s.free+1) xs)[j]?=if j=s.free then some (hdr nd) else if s.free<j/\j<s.free+sz nd then xs[j-(s.free+1)]? else s.ws[j]?:=by
  intro j;rw[zbu _ _ _ _ (by rw[zy6];omega)];by_cases h1:j=s.free
  ·rw[if_pos (by omega),if_pos h1,h1,zyV,if_pos rfl,if_pos (by omega)]
  ·have cS:(s.ws.set s.free (hdr nd))[j]?=s.ws[j]?:=by rw[zyV,if_neg (fun e=>h1 e.symm)]
   rw[if_neg h1];by_cases h2:j<s.free+1
   ·rw[if_pos h2,if_neg (by omega),cS]
   ·rw[if_neg h2];by_cases h3:j<s.free+1+xs.length
    ·rw[if_pos h3,if_pos (by omega)]
    ·rw[if_neg h3,if_neg (by omega),cS]
 have hs:=zhd nd;refine ⟨?_,?_⟩
 ·unfold Sto.node;rw[if_pos (by omega)];congr 2;omega
 ·refine R.alloc bU hf ew aK (fun j hj=>by rw[aY,if_neg (by omega),if_neg (by omega)]) ⟨by rw[aY,if_pos rfl],fun v hv=>?_,fun i f hf=>?_⟩
  ·have h2:sz nd=2:=by rw[hv];rfl
   rw[aY,if_neg (by omega),if_pos (by omega),show s.free+1-(s.free+1)=0 by omega];exact xS v hv
  ·obtain ⟨x,x1,x2⟩:=bZ i f hf;have:=(zyL.1 x1).1;exact ⟨x,by rw[aY,if_neg (by omega),if_pos (by omega),show s.free+1+i-(s.free+1)=i by omega];exact x1,x2⟩
def zwL:List Wd->Option (List Nat)
 |[]=>some []
 |.ad a::l=>(zwL l).map (a::·)
 |.mk _ _::_=>none
theorem zqg:∀ {l:List Wd} {fs:List Nat},zwL l=some fs->fs.length=l.length/\∀ (i f:Nat),fs[i]?=some f->l[i]?=some (.ad f)
 |[],fs,h=>by simp[zwL]at h;subst h;simp
 |.ad a::l,fs,h=>by
  rw[zwL]at h;simp only[zyX]at h;obtain ⟨r,h1,rfl⟩:=h;obtain ⟨e1,e2⟩:=zqg h1;refine ⟨by simp[e1],fun i f hf=>?_⟩;cases i with
  |zero=>simp at hf;simp[hf]
  |succ i=>simpa using e2 i f (by simpa using hf)
 |.mk _ _::l,fs,h=>by simp[zwL]at h
def zlT (st:List Wd) (c:Nat):Option (List Nat):=if c<=st.length then zwL (st.drop (st.length-c)).reverse else none
variable {fs:List Nat}
theorem ziX(ht:zlT st c=some fs):c<=st.length/\fs.length=c/\∀ (i f:Nat),fs[i]?=some f->st[st.length-1-i]?=some (.ad f):=by
 unfold zlT at ht;split at ht
 ·next hc=>
  obtain ⟨e1,e2⟩:=zqg ht;have hl:fs.length=c:=by rw[e1];simp;omega
  refine ⟨hc,hl,fun i f hf=>?_⟩;have br:=(zyL.1 hf).1;have:=e2 i f hf;rw[List.getElem?_reverse (by simp;omega),zzx]at this;rw[<-this];congr 1;simp;omega
 ·cases ht
theorem Rel.zlT(R:Rel s fc h st fns φ){c:Nat}{fs:List Nat}(ht:zlT st c=some fs):(s.words s.top c).length=c/\∀ (i f:Nat),fs[i]?=some f->∃ x,(s.words s.top c)[i]?=some x/\Rf φ h x f:=by
 obtain ⟨h1,h2,h3⟩:=ziX ht;have fg:=R.tp;have gS:=R.hi;unfold Sto.words;refine ⟨by rw[zzf,zzu];omega,fun i f hf=>?_⟩;have br:=(zyL.1 hf).1;obtain ⟨w,x,w1,w2,w3⟩:=R.word (d:=i) (by omega);rw[h3 i f hf]at w1;cases w1;exact ⟨x,by rw[zzy,if_pos (by omega),zzx];exact w2,w3⟩
theorem Rel.zfo(R:Rel s fc h st fns φ)(hr:Rf φ h x a)(hn:h[a]?=some nd)(hf:zaV nd=false):∃ p:Nat,x=p/\φ a=some p/\s.low<=p/\p+sz nd<=s.free/\AtC s.ws (Rf φ h) p nd:=by
 obtain ⟨p,rfl,hp⟩:=hr;rcases hp with hp|⟨b,hb,_⟩
 ·obtain ⟨n,h1,h2,h3,h4⟩:=R.nod a p hp;rw[hn]at h1;cases h1;rcases h4 with ⟨b,p',e,_⟩|⟨_,h5⟩
  ·rw[e]at hf;simp[zaV]at hf
  ·exact ⟨p,rfl,hp,h2,h3,h5⟩
 ·rw[hn]at hb;cases hb;simp[zaV]at hf
theorem AtC.head{ws:List Int}{ρ:Int->Nat->Prop}{p:Nat}{nd:Nd}(h:AtC ws ρ p nd)(bU:zo6 nd){s:Sto}(hw:s.ws=ws):s.head p=some (hdr nd):=by
 obtain ⟨r1,r2⟩:=zde bU;unfold Sto.head;rw[hw,h.1];simp only;rw[if_neg (by omega)]
theorem AtC.fields{ρ:Int->Nat->Prop}(h:AtC s.ws ρ p nd)(hl:p+1+(zdd nd).length<=s.ws.length):(s.words (p+1) (zdd nd).length).length=(zdd nd).length/\∀ (i f:Nat),(zdd nd)[i]?=some f->∃ x,(s.words (p+1) (zdd nd).length)[i]?=some x/\ρ x f:=by
 unfold Sto.words;refine ⟨by rw[zzf,zzu];omega,fun i f hf=>?_⟩;have br:=(zyL.1 hf).1;obtain ⟨x,x1,x2⟩:=h.2.2 i f hf;exact ⟨x,by rw[zzy,if_pos (by omega),zzx];exact x1,x2⟩
theorem zgq(R:Rel s fc h st fns φ){xs:List Int}(hl:xs.length=fs.length)(ew:s.free+xs.length<=s.top)(hx:∀ (i f:Nat),fs[i]?=some f->∃ x,xs[i]?=some x/\Rf φ h x f):
  s.zek xs=some { s with top:=s.top-xs.length,ws:=Go.splice s.ws (s.top-xs.length) xs }/\Rel { s with top:=s.top-xs.length,ws:=Go.splice s.ws (s.top-xs.length) xs } fc h (st++(fs.map Wd.ad).reverse) fns φ:=by
 have fg:=R.tp;have gS:=R.hi;refine ⟨?_,?_⟩
 ·unfold Sto.zek;rw[if_pos (by omega)]
 ·refine R.zeV (ws':=Go.splice s.ws (s.top-xs.length) xs) (top':=s.top-xs.length) (zzM _ _ _ (by omega)) (fun j h1 h2=>by rw[zbu _ _ _ _ (by omega),if_pos (by omega)]) (by omega) (by simp;omega) (fun i w hw=>?_);rw[zbu _ _ _ _ (by omega)];rw[zzj]at hw;split at hw
  ·next br=>
   obtain ⟨y,y1,y2⟩:=R.stk i w hw;exact ⟨y,by rw[if_neg (by omega),if_neg (by omega)];exact y1,y2⟩
  ·next br=>
   have aj:=(zyL.1 hw).1;simp at aj;rw[List.getElem?_reverse (by simp;omega)]at hw;simp only[List.length_map,List.getElem?_map,zyX]at hw;obtain ⟨f,hf,rfl⟩:=hw;obtain ⟨x,x1,x2⟩:=hx _ f hf;refine ⟨x,?_,x2⟩;rw[if_neg (by omega),if_pos (by omega),show s.low+s.half-1-i-(s.top-xs.length)=fs.length-1-(i-st.length) by omega];exact x1
end Ab
end Go.Proofs.YtgahgkddaljmkaaGreatDoor
namespace Go.Proofs.YtgahgkddaljmkaaGreatDoor
open Tryz
namespace Ab
open Classical in
noncomputable def ask (hf k:Nat) (A:Ma) (f:Ma->Option (Except Nat Ma)):Option (Except Nat Ma):=if Fits hf A k then f A else some (.error 4)
def zcE (st:List Wd) (c:Nat):List Wd:=st.take (st.length-c)
def okA (A:Ma):Option (Except Nat Ma):=some (.ok A)
noncomputable def Ma.zau (hf:Nat) (v:Int) (A:Ma):Option (Except Nat Ma):=ask hf 3 A fun A=>okA { A with h:=A.h++[.num v],st:=A.st++[.ad A.h.length] }
noncomputable def Ma.mkN (hf:Nat) (nd:List Nat->Nd) (c:Nat) (A:Ma):Option (Except Nat Ma):=ask hf (c+2) A fun A=>
 match zlT A.st c with
 |none=>none
 |some fs=>okA { A with h:=A.h++[nd fs],st:=zcE A.st c++[.ad A.h.length] }
noncomputable def Ma.zn5 (hf t c:Nat) (A:Ma):Option (Except Nat Ma):=if t<=1000000000/\c<4096 then A.mkN hf (.data t) c else none
noncomputable def Ma.zpH (hf b c:Nat) (A:Ma):Option (Except Nat Ma):=if b<=1000000000/\c<4096 then A.mkN hf (.clo b) c else none
noncomputable def Ma.hold (hf b c:Nat) (A:Ma):Option (Except Nat Ma):=if b<=1000000000/\c<4096 then ask hf (c+2) A fun A=>okA { A with h:=A.h++[.clo b (List.replicate c A.h.length)],st:=A.st++[.ad A.h.length] } else none
noncomputable def Ma.zjF (hf:Nat) (w:Ma->Option Wd) (A:Ma):Option (Except Nat Ma):=ask hf 1 A fun A=>
 match w A with
 |none=>none
 |some w=>okA { A with st:=A.st++[w] }
def Ma.slot (A:Ma) (k:Nat):Option Wd:=if 0<=A.below then A.st[A.below.toNat+k]? else none
def Ma.fill (k c:Nat) (A:Ma):Option (Except Nat Ma):=
 match A.slot k with
 |some (.ad a)=>
  match A.h[a]? with
  |some (.clo b fs)=>if fs.length=c then (match zlT A.st c with|none=>none|some gs=>okA { A with h:=A.h.set a (.clo b gs),st:=zcE A.st c }) else none
  |_=>none
 |_=>none
def Ma.zci (c:Nat) (A:Ma):Option Ma:=if 0<=A.below/\A.below.toNat+c<=A.st.length then some { A with st:=A.st.take A.below.toNat++A.st.drop (A.st.length-c) } else none
def Ma.zdW (A:Ma) (d:Nat):Option (Except Nat Int):=
 if d<A.st.length then
  match A.st[A.st.length-1-d]? with
  |some (.ad a)=>
   match A.h[a]? with
   |some (.num v)=>some (.ok v)
   |some (.data _ _)=>some (.error 3)
   |some (.clo _ _)=>some (.error 3)
   |_=>none
  |_=>none
 else none
noncomputable def Ma.zww (hf:Nat) (b:Bool) (A:Ma):Option (Except Nat Ma):=A.mkN hf (fun _=>.data (if b then 2 else 1) []) 0
noncomputable def Ma.calc (hf:Nat) (sg:ByteArray) (l r:Int) (A:Ma):Option (Except Nat Ma):=
 if sg=⟨#[43]⟩ then A.zau hf (IntKind.i64.wrap (l+r)) else
 if sg=⟨#[45]⟩ then A.zau hf (IntKind.i64.wrap (l-r)) else
 if sg=⟨#[42]⟩ then A.zau hf (IntKind.i64.wrap (l*r)) else
 if sg=⟨#[47]⟩ then (if r=0 then some (.error 3) else A.zau hf (IntKind.i64.wrap (Int.tdiv l r))) else
 if sg=⟨#[60]⟩ then A.zww hf (decide (l<r)) else
 if sg=⟨#[61,61]⟩ then A.zww hf (decide (l=r)) else none
noncomputable def Ma.compute (hf:Nat) (sg:ByteArray) (A:Ma):Option (Except Nat Ma):=
 match A.zdW 0 with
 |none=>none
 |some (.error k)=>some (.error k)
 |some (.ok r)=>
  match A.zdW 1 with
  |none=>none
  |some (.error k)=>some (.error k)
  |some (.ok l)=>Ma.calc hf sg l r { A with st:=zcE A.st 2 }
noncomputable def Ma.zdy (hf a b:Nat) (fs:List Nat) (A:Ma):Option (Except Nat Ma):=ask hf (1+fs.length) A fun A=>okA { A with h:=A.h.set a .busy,st:=A.st++[.mk 0 0]++(fs.map Wd.ad).reverse,next:=b }
noncomputable def Ma.extend (hf b c:Nat) (fs:List Nat) (A:Ma):Option (Except Nat Ma):=ask hf (1+fs.length+c) A fun A=>
 if fs.length+c<4096/\1<=c then
  match zlT (zcE A.st 2) c with
  |none=>none
  |some gs=>okA { A with h:=A.h++[.clo b (fs++gs)],st:=zcE A.st (2+c)++[.ad A.h.length] }
 else none
def leave (st:List Wd) (lk lf:Nat):List Wd:=if lf=0 then st else st.take (st.length-lk)++[.mk 2 lf]++st.drop (st.length-lk)
noncomputable def Ma.call (hf b lk lf:Nat) (fs:List Nat) (A:Ma):Option (Except Nat Ma):=ask hf fs.length A fun A=>
 if 2+lk<=A.st.length/\lf<=1000000 then okA { A with st:=leave (zcE A.st 2) lk lf++(fs.map Wd.ad).reverse,next:=b } else none
noncomputable def Ma.za5 (hf:Nat) (sl:List Nat) (c:Nat) (A:Ma):Option (Except Nat (Bool × Ma)):=
 match A.st.getLast? with
 |some (.ad a)=>
  match A.h[a]? with
  |some (.num _)=>some (.error 3)
  |some (.data _ _)=>some (.error 3)
  |some (.clo b fs)=>
   match sl[b]? with
   |none=>none
   |some n=>if n<fs.length then none else
    if c<n-fs.length then (match A.extend hf b c fs with|none=>none|some (.error k)=>some (.error k)|some (.ok A')=>some (.ok (false,A')))
    else if 2000000<c then none
    else (match A.call hf b (n-fs.length) (c-(n-fs.length)) fs with|none=>none|some (.error k)=>some (.error k)|some (.ok A')=>some (.ok (true,A')))
  |_=>none
 |_=>none
noncomputable def Ma.za1 (hf:Nat) (sl:List Nat):Nat->Ma->Option (Except Nat Ma)
 |0,_=>none
 |g+1,A=>
  if A.st.length<=1 then okA { A with next:=-1 } else
  match A.st[A.st.length-2]? with
  |some (.mk k b)=>
   if 1000000000<=b then none else
   if k=0 then
    match A.st[A.st.length-1]? with
    |some (.ad v)=>
     if 3<=A.st.length then
     match A.st[A.st.length-3]? with
     |some (.ad c)=>
      match A.h[c]?,A.h[v]? with
      |some .busy,some (.num _)=>Ma.za1 hf sl g { A with h:=A.h.set c (.fwd v),st:=zcE A.st 3++[.ad v] }
      |some .busy,some (.data _ _)=>Ma.za1 hf sl g { A with h:=A.h.set c (.fwd v),st:=zcE A.st 3++[.ad v] }
      |some .busy,some (.clo b fs)=>if (∃ n,sl[b]?=some n/\fs.length<n) then Ma.za1 hf sl g { A with h:=A.h.set c (.fwd v),st:=zcE A.st 3++[.ad v] } else none
      |_,_=>none
     |_=>none
     else none
    |_=>none
   else if k=1 then
    match A.st[A.st.length-1]? with
    |some (.ad v)=>okA { A with st:=zcE A.st 2++[.ad v],next:=b }
    |_=>none
   else if k=2 then
    match A.za5 hf sl b with
    |none=>none
    |some (.error j)=>some (.error j)
    |some (.ok q)=>if q.1=true then okA q.2 else Ma.za1 hf sl g q.2
   else none
  |_=>none
noncomputable def Ma.enter (hf:Nat) (sl:List Nat) (A:Ma):Option (Except Nat Ma):=
 match A.st.getLast? with
 |some (.ad a)=>
  let A1:Ma:={ A with st:=zcE A.st 1++[.ad (can A.h a)] }
  match A.h[can A.h a]? with
  |some .busy=>some (.error 5)
  |some (.num _)=>A1.za1 hf sl (A.st.length+1)
  |some (.data _ _)=>A1.za1 hf sl (A.st.length+1)
  |some (.clo b fs)=>
   match sl[b]? with
   |none=>none
   |some n=>if n=fs.length then A1.zdy hf (can A.h a) b fs else if fs.length<n then A1.za1 hf sl (A.st.length+1) else none
  |_=>none
 |_=>none
noncomputable def Ma.zcc (hf t:Nat) (fs:List Nat) (A:Ma):List (Nat × Nat × Nat)->Option (Except Nat Ma)
 |[]=>some (.error 3)
 |(u,c,b)::l=>if u=t then (if c=fs.length then ask hf c A fun A=>okA { A with st:=zcE A.st 1++(fs.map Wd.ad).reverse,next:=b } else some (.error 3)) else Ma.zcc hf t fs A l
noncomputable def Ma.choose (hf:Nat) (zao:List (Nat × Nat × Nat)) (A:Ma):Option (Except Nat Ma):=
 match A.st.getLast? with
 |some (.ad a)=>
  match A.h[a]? with
  |some (.data t fs)=>A.zcc hf t fs zao
  |some (.num _)=>some (.error 3)
  |some (.clo _ _)=>some (.error 3)
  |_=>none
 |_=>none
noncomputable def Ma.step (hf:Nat) (sl:List Nat) (A:Ma):Ins->Option (Except Nat Ma)
 |.push k=>A.zjF hf fun A=>A.slot k
 |.zcW f=>A.zjF hf fun A=>(A.fns[f]?).map Wd.ad
 |.num x=>A.zau hf x
 |.pack t c=>A.zn5 hf t c
 |.close b c=>A.zpH hf b c
 |.hold b c=>A.hold hf b c
 |.fill k c=>A.fill k c
 |.wait b=>if b<=1000000000 then A.zjF hf fun _=>some (.mk 1 b) else none
 |.zbF c=>if c<=1000000000 then A.zjF hf fun _=>some (.mk 2 c) else none
 |.zci c=>(A.zci c).map .ok
 |.zbX=>(A.zdW 0).map fun q=>q.map fun _=>A
 |.comp sg=>A.compute hf sg
 |.enter=>A.enter hf sl
 |.jump b=>okA { A with next:=b }
 |.choose zao=>A.choose hf zao
noncomputable def Ma.zbb (hf:Nat) (sl:List Nat):List Ins->Ma->Option (Except Nat Ma)
 |[],A=>okA A
 |i::l,A=>if A.fuel=0 then some (.error 5) else
  match Ma.step hf sl { A with fuel:=A.fuel-1 } i with
  |none=>none
  |some (.error k)=>some (.error k)
  |some (.ok A2)=>Ma.zbb hf sl l A2
noncomputable def Ma.work (hf:Nat) (cd:List (Nat × List Ins)):Nat->Ma->Option (Except Nat Ma)
 |0,_=>none
 |g+1,A=>
  if A.next=-1 then okA A else
  if A.next<0 then none else
  match cd[A.next.toNat]? with
  |none=>none
  |some (n,is)=>
   match Ma.zbb hf (cd.map Prod.fst) is { A with below:=(A.st.length:Int)-n } with
   |none=>none
   |some (.error k)=>some (.error k)
   |some (.ok A2)=>Ma.work hf cd g A2
noncomputable def Ma.zbm (hf:Nat):Nat->Nat->Ma->Option (Except Nat Ma)
 |_,0,A=>okA A
 |i,k+1,A=>if i<=1000000000 then ask hf 1 A fun A=>Ma.zbm hf (i+1) k { A with h:=A.h++[.clo i []],fns:=A.fns++[A.h.length] } else none
noncomputable def Ma.start (hf:Nat) (sl:List Nat) (nf main:Nat) (A:Ma):Option (Except Nat Ma):=
 match A.zbm hf 0 nf with
 |none=>none
 |some (.error k)=>some (.error k)
 |some (.ok A1)=>ask hf 1 A1 fun A2=>
  match A2.fns[main]? with
  |none=>none
  |some a=>Ma.enter hf sl { A2 with st:=A2.st++[.ad a] }
def Ma.told (A:Ma):Option (Int × Int × Int × Int):=
 match A.st.getLast? with
 |some (.ad a)=>
  match A.h[a]? with
  |some (.num v)=>some (1,v,0,0)
  |some (.data t fs)=>some (2,0,t,fs.length)
  |some (.clo _ _)=>some (3,0,0,0)
  |_=>none
 |_=>none
def Ma.new (fuel:Nat):Ma:=⟨[],[],[],fuel,0,0⟩
noncomputable def zwX (hf:Nat) (cd:List (Nat × List Ins)) (nf main fuel g:Nat):Option (Int × Int × Int × Int):=
 match (Ma.new fuel).start hf (cd.map Prod.fst) nf main with
 |none=>none
 |some (.error k)=>some (k,0,0,0)
 |some (.ok A1)=>
  match Ma.work hf cd g A1 with
  |none=>none
  |some (.error k)=>some (k,0,0,0)
  |some (.ok A2)=>A2.told
def zaS (sl:List Nat) (hf:Nat) (c:Option (Except Nat MSt)) (a:Option (Except Nat Ma)):Prop:=∀ r,a=some r ->
 match r with
 |.error k=>c=some (.error k)
 |.ok A'=>∃ m' φ',c=some (.ok m')/\MR sl hf m' A' φ'
theorem zaS.none(sl:List Nat)(hf:Nat)(c:Option (Except Nat MSt)):zaS sl hf c none:=fun _ h=>by cases h
theorem zaS.error(sl:List Nat)(hf k:Nat):zaS sl hf (some (.error k)) (some (.error k)):=fun _ h=>by cases h;rfl
theorem zaS.ok{sl:List Nat}{hf:Nat}{m:MSt}{A:Ma}{φ:Nat->Option Nat}(h:MR sl hf m A φ):zaS sl hf (some (.ok m)) (okA A):=fun _ e=>by cases e;exact ⟨m,φ,rfl,h⟩
variable {sl:List Nat}{hf k:Nat}{m:MSt}{A:Ma}{φ:Nat->Option Nat}
theorem zcS(M:MR sl hf m A φ){f:MSt->Option (Except Nat MSt)}{g:Ma->Option (Except Nat Ma)}(Er:∀ m' φ',MR sl hf m' A φ'->m'.s.free+k<=m'.s.top->m'.o=m.o->zaS sl hf (f m') (g A)):zaS sl hf (aft (m.zdI k) f) (ask hf k A g):=by
 unfold ask aft;rcases zvU (k:=k) M with ⟨h1,m',φ',h2,h3,h4,h5⟩|⟨h1,h2⟩
 ·rw[if_pos h1,h2];exact Er m' φ' h3 h4 h5
 ·rw[if_neg h1,h2];exact zaS.error _ _ _
end Ab
end Go.Proofs.YtgahgkddaljmkaaGreatDoor
namespace Go.Proofs.YtgahgkddaljmkaaGreatDoor
open Tryz
namespace Ab
abbrev zsp:=Int × Int × Int × Int
end Ab
namespace Sf
open Cp (Nm)
open Ab
end Sf
end Go.Proofs.YtgahgkddaljmkaaGreatDoor
namespace Go.Proofs.YtgahgkddaljmkaaGreatDoor
open Tryz
namespace Ab
variable {sl:List Nat} {hf:Nat} {m:MSt} {A:Ma} {φ:Nat->Option Nat}
abbrev VI (sl:List Nat) (h:List Nd):Prop:=∀ (a b:Nat),h[a]?=some (.fwd b)->∃ nd,h[b]?=some nd/\val sl nd
variable {h:List Nd}{nd:Nd}
theorem zoT(hv:VI sl h)(hf:zaV nd=false):VI sl (h++[nd]):=by
 intro a b hb;rw[zzj]at hb;split at hb
 ·obtain ⟨n,h1,h2⟩:=hv a b hb;exact ⟨n,by rw[zzc (zyL.1 h1).1];exact h1,h2⟩
 ·next nO=>
  have:=(zyL.1 hb).1;simp at this;have h1:a-h.length=0:=by omega
  rw[h1]at hb;simp at hb;rw[hb]at hf;simp[zaV]at hf
theorem zb2(M:MR sl hf m A φ)(v:Int):zaS sl hf (m.zau v) (A.zau hf v):=by
 refine zcS M (fun m' φ' M' hr _=>?_);obtain ⟨n1,n2⟩:=zmy M'.rel (nd:=.num v) (xs:=[v]) trivial rfl (by simp[sz];omega) (by simp[sz]) (fun w hw=>by cases hw;rfl) (fun i f hf=>by simp[zdd]at hf);obtain ⟨p1,p2⟩:=zc5 n2 (x:=m'.s.free) (w:=.ad A.h.length) (by simp[sz];omega) ⟨m'.s.free,rfl,.inl (by simp[grow])⟩;have hd:hdr (.num v)=0:=rfl;rw[hd]at n1 p1;unfold MSt.put;rw[n1];simp only[zzD];rw[p1];exact zaS.ok ⟨p2,M'.half,M'.fuel,M'.next,M'.below,zoT M'.vi rfl⟩
variable {c:Nat}
theorem zi6(M:MR sl hf m A φ){nd:List Nat->Nd}{hd:Int}(hh:∀ fs,fs.length=c->hdr (nd fs)=hd/\zo6 (nd fs)/\zaV (nd fs)=false/\sz (nd fs)=c+1/\(∀ v,nd fs≠.num v)/\∀ (i f:Nat),(zdd (nd fs))[i]?=some f->fs[i]?=some f):zaS sl hf (m.build hd c) (A.mkN hf nd c):=by
 refine zcS M (fun m' φ' M' hr _=>?_);cases ht:zlT A.st c with
 |none=>exact zaS.none _ _ _
 |some fs=>
  obtain ⟨t1,t2,t3⟩:=ziX ht;obtain ⟨e1,e2,e3,e4,e5,e6⟩:=hh fs t2;obtain ⟨w1,w2⟩:=M'.rel.zlT ht;have fg:=M'.rel.tp;have gS:=M'.rel.hi;obtain ⟨n1,n2⟩:=zmy M'.rel (nd:=nd fs) (xs:=m'.s.words m'.s.top c) e2 e3 (by omega) (by rw[w1,e4]) (fun v hv=>absurd hv (e5 v)) (fun i f dr=>by
   obtain ⟨x,x1,x2⟩:=w2 i f (e6 i f dr);exact ⟨x,x1,x2.mono (M'.rel.grown _) zhE⟩)
  obtain ⟨q1,q2⟩:=zhQ n2 (c:=c) t1;obtain ⟨p1,p2⟩:=zc5 q2 (x:=m'.s.free) (w:=.ad A.h.length) (by simp only;omega) ⟨m'.s.free,rfl,.inl (by simp[grow])⟩;rw[e1]at n1;simp only;rw[if_pos ⟨by omega,by omega⟩];unfold MSt.put;rw[n1];simp only[zzD];rw[e1]at q1 p1;rw[q1];simp only[zzD];rw[p1];rw[e1]at p2;exact zaS.ok ⟨p2,M'.half,M'.fuel,M'.next,M'.below,zoT M'.vi e3⟩
theorem ztM(M:MR sl hf m A φ)(t c:Nat):zaS sl hf (m.pack 1 t c) (A.zn5 hf t c):=by
 unfold MSt.pack Ma.zn5;split
 ·next hc=>exact zi6 M (fun fs hl=>⟨by simp[hdr,hl],⟨hc.1,by omega⟩,rfl,by simp[sz,hl];omega,by simp,fun i f hf=>hf⟩)
 ·exact zaS.none _ _ _
theorem ztL(M:MR sl hf m A φ)(t c:Nat):zaS sl hf (m.pack 2 t c) (A.zpH hf t c):=by
 unfold MSt.pack Ma.zpH;split
 ·next hc=>exact zi6 M (fun fs hl=>⟨by simp[hdr,hl],⟨hc.1,by omega⟩,rfl,by simp[sz,hl];omega,by simp,fun i f hf=>hf⟩)
 ·exact zaS.none _ _ _
theorem zoP(M:MR sl hf m A φ)(b:Bool):zaS sl hf (m.zcN b) (A.zww hf b):=by
 refine zi6 M (fun fs hl=>⟨?_,?_,rfl,by simp[sz],by simp,fun i f hf=>by simp[zdd]at hf⟩)
 ·cases b <;> rfl
 ·cases b <;> exact ⟨by decide,by decide⟩
theorem zqu{x:Int}:∀ (c:Nat) (s:Sto),s.free+c<=s.ws.length->∃ ws',s.fill x c=some { s with ws:=ws',free:=s.free+c }/\ws'.length=s.ws.length/\∀ j,ws'[j]?=if s.free<=j/\j<s.free+c then some x else s.ws[j]?
 |0,s,_=>⟨s.ws,rfl,rfl,fun j=>by rw[if_neg (by omega)]⟩
 |c+1,s,h=>by
  obtain ⟨ws',h1,h2,h3⟩:=zqu c { s with ws:=s.ws.set s.free x,free:=s.free+1 } (by simp only[zy6];omega);refine ⟨ws',?_,by rw[h2];simp,fun j=>?_⟩
  ·rw[Sto.fill,if_pos (by omega),h1];simp only;congr 2;omega
  ·rw[h3];simp only;rw[zyV];by_cases e:s.free=j
   ·rw[if_neg (by omega),if_pos e,if_pos (by omega),if_pos (by omega)]
   ·rw[if_neg e];by_cases h4:s.free+1<=j/\j<s.free+1+c
    ·rw[if_pos h4,if_pos (by omega)]
    ·rw[if_neg h4,if_neg (by omega)]
theorem zvD(M:MR sl hf m A φ)(b c:Nat):zaS sl hf (m.hold b c) (A.hold hf b c):=by
 unfold MSt.hold Ma.hold;split
 ·next hc=>
  refine zcS M (fun m' φ' M' hr _=>?_);have fg:=M'.rel.tp;have gS:=M'.rel.hi;have bg:m'.s.node (Hd 2 b c) []=some { m'.s with free:=m'.s.free+1,ws:=m'.s.ws.set m'.s.free (Hd 2 b c) }:=by
   unfold Sto.node;rw[if_pos (by simp;omega)];simp[Go.splice]
  obtain ⟨ws',f1,f2,f3⟩:=zqu (x:=(m'.s.free:Int)) c { m'.s with free:=m'.s.free+1,ws:=m'.s.ws.set m'.s.free (Hd 2 b c) } (by simp only[zy6];omega);simp only[zy6]at f2;have aY:∀ j,ws'[j]?=if j=m'.s.free then some (Hd 2 b c) else if m'.s.free<j/\j<m'.s.free+1+c then some (m'.s.free:Int) else m'.s.ws[j]?:=by
   intro j;rw[f3];simp only;rw[zyV];by_cases e:m'.s.free=j
   ·rw[if_neg (by omega),if_pos e,if_pos (by omega),if_pos e.symm]
   ·have e':¬ j=m'.s.free:=fun x=>e x.symm
    rw[if_neg e,if_neg e'];by_cases h4:m'.s.free+1<=j/\j<m'.s.free+1+c
    ·rw[if_pos h4,if_pos (by omega)]
    ·rw[if_neg h4,if_neg (by omega)]
  have cT:sz (.clo b (List.replicate c A.h.length))=1+c:=by simp[sz]
  have kV:∀ (i f:Nat),(zdd (.clo b (List.replicate c A.h.length)))[i]?=some f->∃ x,ws'[m'.s.free+1+i]?=some x/\Rf (grow φ' A.h.length m'.s.free) (A.h++[.clo b (List.replicate c A.h.length)]) x f:=by
   intro i f hf;simp only[zdd]at hf;have br:=(zyL.1 hf).1;simp at br;have uI:=zzQ (zy1 hf);exact ⟨m'.s.free,by rw[aY,if_neg (by omega),if_pos (by omega)],⟨m'.s.free,rfl,.inl (by rw[uI];simp[grow])⟩⟩
  have R2:=M'.rel.alloc (ws':=ws') (nd:=.clo b (List.replicate c A.h.length)) ⟨hc.1,by simp;omega⟩ rfl (by rw[cT];omega) f2 (fun j hj=>by rw[cT]at hj;rw[aY,if_neg (by omega),if_neg (by omega)]) ⟨(by rw[aY,if_pos rfl];simp[hdr]),(fun v hv=>(by cases hv)),kV⟩;rw[cT]at R2;obtain ⟨p1,p2⟩:=zc5 R2 (x:=m'.s.free) (w:=.ad A.h.length) (by simp only;omega) ⟨m'.s.free,rfl,.inl (by simp[grow])⟩;unfold MSt.put;rw[bg];simp only[zzD];rw[f1];simp only[zzD];have he:m'.s.free+1+c=m'.s.free+(1+c):=by omega
  rw[he,p1];exact zaS.ok ⟨p2,M'.half,M'.fuel,M'.next,M'.below,zoT M'.vi rfl⟩
 ·exact zaS.none _ _ _
variable {k:Nat}{w:Wd}
theorem zqU(M:MR sl hf m A φ)(hs:A.slot k=some w):∃ i x,m.slot k=some i/\m.s.ws[i]?=some x/\RW φ A.h x w/\m.s.top<=i/\i<m.s.low+m.s.half:=by
 unfold Ma.slot at hs;split at hs
 ·next h0=>
  have br:=(zyL.1 hs).1;obtain ⟨x,x1,x2⟩:=M.rel.stk _ w hs;have fg:=M.rel.tp;have hb:=M.below;refine ⟨m.s.low+m.s.half-1-(A.below.toNat+k),x,?_,x1,x2,by omega,by omega⟩;unfold MSt.slot;rw[hb,if_pos ⟨h0,by omega⟩];congr 1;omega
 ·cases hs
theorem zoa(M:MR sl hf m A φ)(k:Nat):zaS sl hf (m.ziT k) (A.zjF hf fun A=>A.slot k):=by
 refine zcS M (fun m' φ' M' hr ho=>?_);cases hs:A.slot k with
 |none=>simp only[hs];exact zaS.none _ _ _
 |some w=>
  obtain ⟨i,x,s1,s2,s3,_⟩:=zqU M' hs;obtain ⟨p1,p2⟩:=zc5 M'.rel hr s3;simp only[hs,s1,s2];unfold MSt.put;rw[p1];exact zaS.ok ⟨p2,M'.half,M'.fuel,M'.next,M'.below,M'.vi⟩
theorem zrP(M:MR sl hf m A φ)(f:Nat):zaS sl hf (m.zcW f) (A.zjF hf fun A=>(A.fns[f]?).map Wd.ad):=by
 refine zcS M (fun m' φ' M' hr ho=>?_);cases hs:A.fns[f]? with
 |none=>simp only[hs,Option.map_none];exact zaS.none _ _ _
 |some a=>
  obtain ⟨x,x1,x2⟩:=M'.rel.fn f a hs;obtain ⟨p1,p2⟩:=zc5 M'.rel hr (w:=.ad a) x2;simp only[hs,x1,zzP];unfold MSt.put;rw[p1];exact zaS.ok ⟨p2,M'.half,M'.fuel,M'.next,M'.below,M'.vi⟩
theorem zij(M:MR sl hf m A φ)(k b:Nat):zaS sl hf (m.zcH k b) (if b<=1000000000 then A.zjF hf fun _=>some (.mk k b) else none):=by
 unfold MSt.zcH;split
 ·refine zcS M (fun m' φ' M' hr ho=>?_);obtain ⟨p1,p2⟩:=zc5 M'.rel (x:=Mk k b) (w:=.mk k b) hr rfl;simp only;unfold MSt.put;rw[p1];exact zaS.ok ⟨p2,M'.half,M'.fuel,M'.next,M'.below,M'.vi⟩
 ·exact zaS.none _ _ _
theorem zut(M:MR sl hf m A φ)(c:Nat):zaS sl hf ((m.zci c).map .ok) ((A.zci c).map .ok):=by
 unfold Ma.zci;split
 ·next hc=>
  have fg:=M.rel.tp;have gS:=M.rel.hi;have iY:=M.rel.ft;have hb:=M.below;have aN:(m.s.words m.s.top c).length=c:=by unfold Sto.words;rw[zzf,zzu];omega
  unfold MSt.zci;rw[hb,if_pos ⟨hc.1,by omega,gS,by omega⟩];simp only[zzP];refine zaS.ok (φ:=φ) ⟨?_,M.half,M.fuel,M.next,M.below,M.vi⟩;refine M.rel.zeV (top':=m.s.low+m.s.half-A.below.toNat-c) (zzM _ _ _ (by rw[aN];omega)) (fun j h1 h2=>by rw[zbu _ _ _ _ (by rw[aN];omega),if_pos (by omega)]) (by omega) (by simp;omega) (fun i w hw=>?_);rw[zbu _ _ _ _ (by rw[aN];omega),aN];rw[zzj,zzf,zzV (by omega)]at hw;split at hw
  ·next br=>
   rw[zzy,if_pos br]at hw;obtain ⟨y,y1,y2⟩:=M.rel.stk i w hw;exact ⟨y,by rw[if_neg (by omega),if_neg (by omega)];exact y1,y2⟩
  ·next br=>
   rw[zzx]at hw;have aj:=(zyL.1 hw).1;obtain ⟨y,y1,y2⟩:=M.rel.stk _ w hw;refine ⟨y,?_,y2⟩;rw[if_neg (by omega),if_pos (by omega)];unfold Sto.words;rw[zzy,if_pos (by omega),zzx];rw[<-y1];congr 1;omega
 ·exact zaS.none _ _ _
theorem zjw(M:MR sl hf m A φ){d:Nat}{r:Except Nat Int}(h:A.zdW d=some r):m.numberAt d=some r:=by
 unfold Ma.zdW at h;split at h
 ·next hd=>
  obtain ⟨w,x,w1,w2,w3⟩:=M.rel.word hd;rw[w1]at h;cases w with
  |mk k b=>simp at h
  |ad a=>
   simp only at h;have key:∀ nd,A.h[a]?=some nd->zaV nd=false->∃ p:Nat,x=p/\m.s.ws[p]?=some (hdr nd)/\0<=hdr nd/\hdr nd<9223372036854775808/\∀ v,nd=.num v->m.s.ws[p+1]?=some v:=fun nd hn hf=>by
    obtain ⟨p,p1,p2,p3,p4,p5⟩:=M.rel.zfo w3 hn hf;obtain ⟨r1,r2⟩:=zde (M.rel.ok a nd hn);exact ⟨p,p1,p5.1,r1,r2,p5.2.1⟩
   unfold MSt.numberAt;rw[w2];simp only;cases hn:A.h[a]? with
   |none=>rw[hn]at h;simp at h
   |some nd=>
    rw[hn]at h;cases nd with
    |num v=>
     cases h;obtain ⟨p,rfl,p2,p3,p4,p5⟩:=key _ hn rfl;rw[if_neg (by omega),zy2,p2];simp only;rw[if_neg (by omega),if_pos (by simp[hdr]),p5 v rfl]
    |data t fs=>
     cases h;obtain ⟨p,rfl,p2,p3,p4,p5⟩:=key _ hn rfl;rw[if_neg (by omega),zy2,p2];simp only;rw[if_neg (by omega),if_neg (by simp only[hdr];rw[zbx (by omega)];omega)]
    |clo t fs=>
     cases h;obtain ⟨p,rfl,p2,p3,p4,p5⟩:=key _ hn rfl;rw[if_neg (by omega),zy2,p2];simp only;rw[if_neg (by omega),if_neg (by simp only[hdr];rw[zbx (by omega)];omega)]
    |busy=>simp at h
    |fwd b=>simp at h
 ·cases h
theorem zpD(M:MR sl hf m A φ):zaS sl hf ((m.numberAt 0).map fun q=>q.map fun _=>m) ((A.zdW 0).map fun q=>q.map fun _=>A):=by
 cases h:A.zdW 0 with
 |none=>exact zaS.none _ _ _
 |some r=>
  rw[zjw M h];cases r with
  |error k=>exact zaS.error _ _ _
  |ok v=>exact zaS.ok M
theorem zvd(M:MR sl hf m A φ)(sg:ByteArray)(l r:Int):zaS sl hf (m.calc sg l r) (A.calc hf sg l r):=by
 unfold MSt.calc Ma.calc;split
 ·exact zb2 M _
 ·split
  ·exact zb2 M _
  ·split
   ·exact zb2 M _
   ·split
    ·split
     ·exact zaS.error _ _ _
     ·exact zb2 M _
    ·split
     ·exact zoP M _
     ·split
      ·exact zoP M _
      ·exact zaS.none _ _ _
theorem zpo(M:MR sl hf m A φ)(sg:ByteArray):zaS sl hf (m.compute sg) (A.compute hf sg):=by
 unfold MSt.compute Ma.compute;cases h0:A.zdW 0 with
 |none=>exact zaS.none _ _ _
 |some r0=>
  rw[zjw M h0];cases r0 with
  |error k=>exact zaS.error _ _ _
  |ok r=>
   simp only;cases h1:A.zdW 1 with
   |none=>exact zaS.none _ _ _
   |some r1=>
    rw[zjw M h1];cases r1 with
    |error k=>exact zaS.error _ _ _
    |ok l=>
     simp only;have hl:2<=A.st.length:=by
      unfold Ma.zdW at h1;split at h1
      ·omega
      ·cases h1
     obtain ⟨q1,q2⟩:=zhQ M.rel hl;rw[q1];exact zvd (m:={ m with s:={ m.s with top:=m.s.top+2 } }) (A:={ A with st:=zcE A.st 2 }) ⟨q2,M.half,M.fuel,M.next,M.below,M.vi⟩ sg l r
variable {sl:List Nat} {hf:Nat} {m:MSt} {A:Ma} {φ:Nat->Option Nat}{s:Sto}{fc:List Int}{st:List Wd}{fns:List Nat}{p a:Nat}
theorem Rel.zi2(R:Rel s fc h st fns φ)(hp:φ a=some p)(hn:h[a]?=some nd)(hf:zaV nd=false):s.low<=p/\p+sz nd<=s.free/\AtC s.ws (Rf φ h) p nd:=by
 obtain ⟨q,e,h1,h2,h3,h4⟩:=R.zfo (x:=p) ⟨p,rfl,.inl hp⟩ hn hf;have:q=p:=by omega
 subst this;exact ⟨h2,h3,h4⟩
theorem zgn(h:st.getLast?=some w):0<st.length/\st[st.length-1]?=some w:=by
 rw[List.getLast?_eq_getElem?]at h;exact ⟨by have:=(zyL.1 h).1;omega,h⟩
theorem Rel.zdB(R:Rel s fc h st fns φ)(ht:st.getLast?=some (.ad a))(hn:h[a]?=some nd)(hf:zaV nd=false):∃ p,φ a=some p/\s.nodeAt 0=some (p,hdr nd)/\s.ws[s.top]?=some (p:Int)/\s.low<=p/\p+sz nd<=s.free/\AtC s.ws (Rf φ h) p nd:=by
 obtain ⟨h0,h1⟩:=zgn ht;obtain ⟨w,x,w1,w2,w3⟩:=R.word (d:=0) h0;rw[zAl,h1]at w1;cases w1;obtain ⟨p,rfl,p2,p3,p4,p5⟩:=R.zfo w3 hn hf;rw[zzO]at w2;refine ⟨p,p2,?_,w2,p3,p4,p5⟩;unfold Sto.nodeAt;rw[zzO,w2];simp only;rw[if_neg (by omega),zy2,p5.head (R.ok a nd hn) rfl];rfl
theorem zi9(h:zo6 nd)(hf:zaV nd=false):cnt (hdr nd)=(zdd nd).length:=by
 unfold cnt;exact ztf h hf
variable {nd':Nd}
theorem zqC(hn:h[a]?=some nd)(hf:zaV nd=false):∀ (c b:Nat),h[c]?=some (.fwd b)->(h.set a nd')[c]?=some (.fwd b):=by
 intro c b hb;rw[zyV,if_neg (fun e=>by subst e;rw[hn]at hb;cases hb;simp[zaV]at hf)];exact hb
theorem zw3(hv:VI sl h)(hn:h[a]?=some nd)(_hf:zaV nd=false)(h1:zaV nd'=false)(h2:val sl nd->val sl nd'):VI sl (h.set a nd'):=by
 have aU:=(zyL.1 hn).1;intro c b hb;rw[zyV]at hb;by_cases e0:a=c
 ·rw[if_pos e0,if_pos aU]at hb;cases hb;simp[zaV]at h1
 ·rw[if_neg e0]at hb;obtain ⟨n,g1,g2⟩:=hv c b hb;by_cases e:a=b
  ·subst e;rw[hn]at g1;cases g1;exact ⟨nd',by rw[zyV,if_pos rfl,if_pos aU],h2 g2⟩
  ·exact ⟨n,by rw[zyV,if_neg e];exact g1,g2⟩
theorem zvw(M:MR sl hf m A φ)(k c:Nat):zaS sl hf (m.zln k c) (A.fill k c):=by
 unfold Ma.fill;cases hs:A.slot k with
 |none=>exact zaS.none _ _ _
 |some w=>
  cases w with
  |mk _ _=>exact zaS.none _ _ _
  |ad a=>
   simp only;cases hn:A.h[a]? with
   |none=>exact zaS.none _ _ _
   |some nd=>
    cases nd with
    |clo b fs=>
     simp only;split
     ·next bZ=>
      cases ht:zlT A.st c with
      |none=>exact zaS.none _ _ _
      |some gs=>
       obtain ⟨i,x,s1,s2,s3,s4,s5⟩:=zqU M hs;obtain ⟨p,rfl,p2,p3,p4,p5⟩:=M.rel.zfo s3 hn rfl;obtain ⟨t1,t2,t3⟩:=ziX ht;obtain ⟨w1,w2⟩:=M.rel.zlT ht;have bU:=M.rel.ok a _ hn;have fg:=M.rel.tp;have gS:=M.rel.hi;have iY:=M.rel.ft;have cT:sz (.clo b fs)=1+c:=by simp[sz,bZ]
       rw[cT]at p4;have iG:cnt (hdr (.clo b fs))=c:=by rw[zi9 bU rfl];exact bZ
       unfold MSt.zln;rw[s1];simp only;rw[s2];simp only;rw[if_neg (by omega),zy2,p5.head bU rfl];simp only;rw[if_pos ⟨iG,by omega,by omega,by omega⟩];have aY:∀ j,(Go.splice m.s.ws (p+1) (m.s.words m.s.top c))[j]?=if j<p+1 then m.s.ws[j]? else if j<p+1+c then (m.s.words m.s.top c)[j-(p+1)]? else m.s.ws[j]?:=fun j=>by
        rw[zbu _ _ _ _ (by rw[w1];omega),w1]
       have R2:=M.rel.zxM (ws':=Go.splice m.s.ws (p+1) (m.s.words m.s.top c)) (nd':=.clo b gs) p2 hn rfl ⟨bU.1,by rw[t2];exact bZ ▸ bU.2⟩ (by simp[sz,bZ,t2]) (zzM _ _ _ (by rw[w1];omega))
        (fun j hj=>by rw[cT]at hj;rw[aY];by_cases h1:j<p+1;rw[if_pos h1];rw[if_neg h1,if_neg (by omega)])
        (.inr ⟨rfl,by rw[aY,if_pos (by omega),p5.1];simp[hdr,bZ,t2],fun v hv=>(by cases hv),fun i f dr=>by
         obtain ⟨y,y1,y2⟩:=w2 i f dr;have:=(zyL.1 y1).1;exact ⟨y,by rw[aY,if_neg (by omega),if_pos (by omega),show p+1+i-(p+1)=i by omega];exact y1,y2.mono (fun _ _ z=>z) (zqC hn rfl)⟩⟩)
        (fun e=>by simp[zaV]at e) (fun b' e=>by cases e)
       obtain ⟨q1,q2⟩:=zhQ R2 t1;unfold MSt.put;rw[q1];refine zaS.ok ⟨q2,M.half,M.fuel,M.next,M.below,zw3 M.vi hn rfl rfl (fun hv=>?_)⟩;obtain ⟨n,n1,n2⟩:=hv;exact ⟨n,n1,by rw[t2];rw[bZ]at n2;exact n2⟩
     ·exact zaS.none _ _ _
    |_=>exact zaS.none _ _ _
variable {b:Nat}{fs:List Nat}
theorem zsF(M:MR sl hf m A φ){n:Nat}(ht:A.st.getLast?=some (.ad a))(hn:A.h[a]?=some (.clo b fs))(hb:sl[b]?=some n)(hl:n=fs.length):zaS sl hf m.zdy (A.zdy hf a b fs):=by
 have bU:=M.rel.ok a _ hn;obtain ⟨p,p1,p2,p3,p4,p5,p6⟩:=M.rel.zdB ht hn rfl;unfold MSt.zdy;rw[p2];simp only;have hc:cnt (hdr (.clo b fs))=fs.length:=zi9 bU rfl;rw[hc];refine zcS M (fun m1 φ1 M1 hr ho=>?_);obtain ⟨q,q1,q2,q3,q4,q5,q6⟩:=M1.rel.zdB ht hn rfl;obtain ⟨u1,u2⟩:=zc5 M1.rel (x:=Mk 0 0) (w:=.mk 0 0) (by omega) rfl;obtain ⟨s2,e2⟩:∃ s2:Sto,s2={ m1.s with top:=m1.s.top-1,ws:=m1.s.ws.set (m1.s.top-1) (Mk 0 0) }:=⟨_,rfl⟩;rw[<-e2]at u1 u2;have g2:s2.free=m1.s.free/\s2.top=m1.s.top-1:=by rw[e2];exact ⟨rfl,rfl⟩
 obtain ⟨a1,a2,a3⟩:=u2.zi2 q1 hn rfl;have cT:sz (.clo b fs)=1+fs.length:=rfl;have ss:=u2.hi;have se:=u2.ft;have tu:=u2.tp;obtain ⟨f1,f2⟩:=a3.fields (by simp only[zdd];omega);simp only[zdd]at f1 f2;obtain ⟨v1,v2⟩:=zgq u2 (fs:=fs) f1 (by rw[f1];omega) f2;obtain ⟨s3,e3⟩:∃ s3:Sto,s3={ s2 with top:=s2.top-(s2.words (q+1) fs.length).length,ws:=Go.splice s2.ws (s2.top-(s2.words (q+1) fs.length).length) (s2.words (q+1) fs.length) }:=⟨_,rfl⟩;rw[<-e3]at v1 v2;have h3:s3.half=m1.s.half:=by rw[e3,e2]
 obtain ⟨b1,b2,b3⟩:=v2.zi2 q1 hn rfl;have p7:=(zyL.1 b3.1).1;have R4:=v2.zxM (ws':=s3.ws.set q (Hd 3 0 0)) (nd':=.busy) q1 hn rfl trivial (by simp[sz]) (by simp) (fun j hj=>by rw[zyV,if_neg (by omega)])
  (.inr ⟨rfl,(by rw[zyV,if_pos rfl,if_pos p7];rfl),fun v hv=>(by cases hv),fun i f dr=>(by simp[zdd]at dr)⟩) (fun e=>by simp[zaV]at e) (fun b' e=>by cases e)
 unfold MSt.begun;rw[q2];simp only;rw[u1];simp only;rw[a3.head bU rfl];simp only;rw[hc,if_neg (by omega),v1];simp only;rw[b3.head bU rfl];simp only[zzP];refine zaS.ok (φ:=φ1) ⟨R4,h3.trans M1.half,M1.fuel,?_,M1.below,zw3 M1.vi hn rfl rfl (fun hv=>?_)⟩
 ·simp only[hdr];exact zdE (by omega) bU.2
 ·obtain ⟨n',n1,n2⟩:=hv;rw[hb]at n1;cases n1;omega
theorem zrg(M:MR sl hf m A φ)(zao:List (Nat × Nat × Nat)):zaS sl hf (m.choose zao) (A.choose hf zao):=by
 unfold Ma.choose;cases ht:A.st.getLast? with
 |none=>exact zaS.none _ _ _
 |some w=>
  cases w with
  |mk _ _=>exact zaS.none _ _ _
  |ad a=>
   simp only;cases hn:A.h[a]? with
   |none=>exact zaS.none _ _ _
   |some nd=>
    cases nd with
    |num v=>
     obtain ⟨p,p1,p2,_⟩:=M.rel.zdB ht hn rfl;unfold MSt.choose;rw[p2];simp only;rw[if_neg (by simp[hdr])];exact zaS.error _ _ _
    |clo b fs=>
     obtain ⟨p,p1,p2,_⟩:=M.rel.zdB ht hn rfl;unfold MSt.choose;rw[p2];simp only;rw[if_neg (by simp only[hdr];rw[zbx (by omega)];omega)];exact zaS.error _ _ _
    |data t fs=>
     obtain ⟨p,p1,p2,_⟩:=M.rel.zdB ht hn rfl;have bU:=M.rel.ok a _ hn;have hk:hdr (.data t fs)%16=1:=by simp only[hdr];exact zbx (by omega)
     have hw:hdr (.data t fs)/65536=(t:Int):=by simp only[hdr];exact zdE (by omega) bU.2
     have hc:cnt (hdr (.data t fs))=fs.length:=zi9 bU rfl;unfold MSt.choose;rw[p2];simp only;rw[if_pos hk];clear p1
     induction zao with
     |nil=>exact zaS.error _ _ _
     |cons arm l ih=>
      obtain ⟨u,c,b⟩:=arm;rw[MSt.zcc,Ma.zcc,hw];by_cases hu:u=t
      ·rw[if_pos (by omega),if_pos hu];unfold MSt.split;rw[p2];simp only;rw[hc];by_cases uH:c=fs.length
       ·rw[if_pos uH,if_pos uH];refine zcS M (fun m1 φ1 M1 hr ho=>?_);obtain ⟨q,q1,q2,q3,q4,q5,q6⟩:=M1.rel.zdB ht hn rfl;obtain ⟨g0,_⟩:=zgn ht;obtain ⟨u1,u2⟩:=zhQ M1.rel (c:=1) (by omega);obtain ⟨a1,a2,a3⟩:=u2.zi2 q1 hn rfl;have cT:sz (.data t fs)=1+fs.length:=rfl;have ss:=u2.hi;have se:=u2.ft;have tu:=u2.tp;simp only at a2 ss se tu;obtain ⟨f1,f2⟩:=a3.fields (s:={ m1.s with top:=m1.s.top+1 }) (by simp only[zdd];omega);obtain ⟨v1,v2⟩:=zgq u2 (fs:=fs) f1 (by rw[f1];simp only[zdd];omega) f2;unfold MSt.zqM;rw[q2];simp only;rw[u1];simp only;rw[hc,if_neg (by omega)];simp only[zdd]at v1;rw[v1];simp only[zzP];exact zaS.ok (φ:=φ1) ⟨v2,M1.half,M1.fuel,rfl,M1.below,M1.vi⟩
       ·rw[if_neg uH,if_neg uH];exact zaS.error _ _ _
      ·rw[if_neg (by omega),if_neg hu];exact ih
    |_=>exact zaS.none _ _ _
variable {sl:List Nat} {hf:Nat} {m:MSt} {A:Ma} {φ:Nat->Option Nat}{i:Nat}
theorem zmd(h:(zcE st c)[i]?=some w):st[i]?=some w:=by
 unfold zcE at h;rw[zzy]at h;split at h
 ·exact h
 ·cases h
theorem zdF(st:List Wd)(c:Nat):(zcE st c).length=st.length-c:=by unfold zcE;rw[zzf];omega
theorem zrs(M:MR sl hf m A φ){n:Nat}(ht:A.st.getLast?=some (.ad a))(hn:A.h[a]?=some (.clo b fs))(_hb:sl[b]?=some n):zaS sl hf (m.extend c) (A.extend hf b c fs):=by
 have bU:=M.rel.ok a _ hn;obtain ⟨p,p1,p2,p3,p4,p5,p6⟩:=M.rel.zdB ht hn rfl;have hc:cnt (hdr (.clo b fs))=fs.length:=zi9 bU rfl;unfold MSt.extend;rw[p2];simp only;rw[hc];refine zcS M (fun m1 φ1 M1 hr ho=>?_);split
 ·next hg=>
  cases fg:zlT (zcE A.st 2) c with
  |none=>exact zaS.none _ _ _
  |some gs=>
   obtain ⟨t1,t2,t3⟩:=ziX fg;rw[zdF]at t1;obtain ⟨q,q1,q2,q3,q4,q5,q6⟩:=M1.rel.zdB ht hn rfl;have cT:sz (.clo b fs)=1+fs.length:=rfl;have gS:=M1.rel.hi;have iY:=M1.rel.ft;have yd:=M1.rel.tp;obtain ⟨f1,f2⟩:=q6.fields (by simp only[zdd];omega);simp only[zdd]at f1 f2;have hw:hdr (.clo b fs)/65536=(b:Int):=by simp only[hdr];exact zdE (by omega) bU.2
   have bg:m1.s.node (Hd 2 b (fs.length+c)) (m1.s.words (q+1) fs.length)=some { m1.s with free:=m1.s.free+1+fs.length,ws:=Go.splice (m1.s.ws.set m1.s.free (Hd 2 b (fs.length+c))) (m1.s.free+1) (m1.s.words (q+1) fs.length) }:=by
    unfold Sto.node;rw[f1,if_pos (by omega)]
   obtain ⟨s2,e2⟩:∃ s2:Sto,s2={ m1.s with free:=m1.s.free+1+fs.length,ws:=Go.splice (m1.s.ws.set m1.s.free (Hd 2 b (fs.length+c))) (m1.s.free+1) (m1.s.words (q+1) fs.length) }:=⟨_,rfl⟩;rw[<-e2]at bg;have rq:s2.free=m1.s.free+1+fs.length:=by rw[e2]
   have DJ:s2.top=m1.s.top:=by rw[e2]
   have zB:s2.ws.length=m1.s.ws.length:=by rw[e2];simp only;rw[zzM _ _ _ (by rw[zy6,f1];omega),zy6]
   have gI:∀ j,s2.ws[j]?=if j=m1.s.free then some (Hd 2 b (fs.length+c)) else if m1.s.free<j/\j<m1.s.free+1+fs.length then (m1.s.words (q+1) fs.length)[j-(m1.s.free+1)]? else m1.s.ws[j]?:=by
    intro j;rw[e2];simp only;rw[zbu _ _ _ _ (by rw[zy6,f1];omega),f1];by_cases h1:j=m1.s.free
    ·rw[if_pos (by omega),if_pos h1,h1,zyV,if_pos rfl,if_pos (by omega)]
    ·have cS:(m1.s.ws.set m1.s.free (Hd 2 b (fs.length+c)))[j]?=m1.s.ws[j]?:=by rw[zyV,if_neg (fun e=>h1 e.symm)]
     rw[if_neg h1];by_cases h2:j<m1.s.free+1
     ·rw[if_pos h2,if_neg (by omega),cS]
     ·rw[if_neg h2];by_cases h3:j<m1.s.free+1+fs.length
      ·rw[if_pos h3,if_pos (by omega)]
      ·rw[if_neg h3,if_neg (by omega),cS]
   have eE:(s2.words (s2.top+2) c).length=c:=by unfold Sto.words;rw[zzf,zzu];omega
   have Fs:∀ i,i<c->(s2.words (s2.top+2) c)[i]?=m1.s.ws[m1.s.top+(2+i)]?:=fun i hi=>by
    unfold Sto.words;rw[zzy,if_pos hi,zzx,DJ,gI,if_neg (by omega),if_neg (by omega),show m1.s.top+2+i=m1.s.top+(2+i) by omega]
   obtain ⟨pC,e3⟩:∃ pC,pC=Go.splice s2.ws s2.free (s2.words (s2.top+2) c):=⟨_,rfl⟩;have DK:pC.length=m1.s.ws.length:=by rw[e3,zzM _ _ _ (by rw[eE];omega),zB]
   have jG:∀ j,pC[j]?=if j<s2.free then s2.ws[j]? else if j<s2.free+c then (s2.words (s2.top+2) c)[j-s2.free]? else s2.ws[j]?:=fun j=>by rw[e3,zbu _ _ _ _ (by rw[eE];omega),eE]
   have ph:sz (.clo b (fs++gs))=1+fs.length+c:=by simp[sz,t2];omega
   have kV:∀ (i f:Nat),(zdd (.clo b (fs++gs)))[i]?=some f->∃ x,pC[m1.s.free+1+i]?=some x/\Rf (grow φ1 A.h.length m1.s.free) (A.h++[.clo b (fs++gs)]) x f:=by
    intro i f dr;simp only[zdd]at dr;rw[zzj]at dr;split at dr
    ·next br=>
     obtain ⟨x,x1,x2⟩:=f2 i f dr;refine ⟨x,?_,x2.mono (M1.rel.grown _) zhE⟩;rw[jG,if_pos (by omega),gI,if_neg (by omega),if_pos (by omega),show m1.s.free+1+i-(m1.s.free+1)=i by omega];exact x1
    ·next br=>
     have fX:=(zyL.1 dr).1;have dY:=zmd (t3 (i-fs.length) f dr);rw[zdF]at dY;obtain ⟨w,x,w1,w2,w3⟩:=M1.rel.word (d:=2+(i-fs.length)) (by omega);rw[show A.st.length-1-(2+(i-fs.length))=A.st.length-2-1-(i-fs.length) by omega,dY]at w1;cases w1;refine ⟨x,?_,Rf.mono (M1.rel.grown _) zhE w3⟩;rw[jG,if_neg (by omega),if_pos (by omega),show m1.s.free+1+i-s2.free=i-fs.length by omega,Fs _ (by omega)];exact w2
   have R2:=M1.rel.alloc (ws':=pC) (nd:=.clo b (fs++gs)) ⟨bU.1,by rw[zyT,t2];exact hg.1⟩ rfl (by rw[ph];omega) DK (fun j hj=>by
    rw[ph]at hj;rw[jG];by_cases h1:j<s2.free
    ·rw[if_pos h1,gI,if_neg (by omega),if_neg (by omega)]
    ·rw[if_neg h1,if_neg (by omega),gI,if_neg (by omega),if_neg (by omega)])
    ⟨(by rw[jG,if_pos (by omega),gI,if_pos rfl];simp only[hdr];rw[zyT,t2]),(fun v hv=>(by cases hv)),kV⟩
   rw[ph]at R2;obtain ⟨u1,u2⟩:=zhQ R2 (c:=2+c) (by omega);obtain ⟨v1,v2⟩:=zc5 u2 (x:=m1.s.free) (w:=.ad A.h.length) (by simp only;omega) ⟨m1.s.free,rfl,.inl (by simp[grow])⟩;unfold MSt.extended;rw[q2];simp only;rw[hc,hw,zy2,if_pos ⟨hg.1,by have:=bU.1;omega,by omega,by omega,hg.2⟩,bg];simp only;rw[if_pos ⟨by rw[gI,if_neg (by omega),if_neg (by omega)];exact q6.1,zB,by omega,by omega⟩];have bP:({ s2 with ws:=Go.splice s2.ws s2.free (s2.words (s2.top+2) c),free:=s2.free+c }:Sto)={ m1.s with ws:=pC,free:=m1.s.free+(1+fs.length+c) }:=by
    rw[<-e3,rq];rw[e2];simp only[Sto.mk.injEq];refine ⟨trivial,trivial,trivial,by omega,trivial⟩
   rw[bP,u1];simp only[zzD];rw[v1];simp only[zzP];exact zaS.ok ⟨v2,M1.half,M1.fuel,M1.next,M1.below,zoT M1.vi rfl⟩
 ·exact zaS.none _ _ _
theorem ztq(R:Rel s fc h st fns φ){lk lf:Nat}(hl:lk<=st.length)(kg:lf≠0)(bZ:lf<=1000000)(ew:s.free+1<=s.top):∃ s',s.leave lk lf=some s'/\Rel s' fc h (leave st lk lf) fns φ/\s'.free=s.free/\s'.top=s.top-1/\s'.half=s.half/\s'.ws.length=s.ws.length:=by
 have fg:=R.tp;have gS:=R.hi;have aN:(s.words s.top lk).length=lk:=by unfold Sto.words;rw[zzf,zzu];omega
 have aK:(Go.splice s.ws (s.top-1) (s.words s.top lk)).length=s.ws.length:=zzM _ _ _ (by rw[aN];omega);refine ⟨{ s with top:=s.top-1,ws:=(Go.splice s.ws (s.top-1) (s.words s.top lk)).set (s.top-1+lk) (Mk 2 lf) },?_,?_,rfl,rfl,rfl,by simp only[zy6];exact aK⟩
 ·unfold Sto.leave;rw[if_pos ⟨by omega,by omega,bZ⟩]
 ·have aY:∀ j,((Go.splice s.ws (s.top-1) (s.words s.top lk)).set (s.top-1+lk) (Mk 2 lf))[j]?=if j=s.top-1+lk then some (Mk 2 lf) else if s.top-1<=j/\j<s.top-1+lk then s.ws[j+1]? else s.ws[j]?:=by
   intro j;rw[zyV,aK];by_cases h1:s.top-1+lk=j
   ·rw[if_pos h1,if_pos (by omega),if_pos h1.symm]
   ·have iB:¬ j=s.top-1+lk:=fun e=>h1 e.symm
    rw[if_neg h1,if_neg iB,zbu _ _ _ _ (by rw[aN];omega),aN];by_cases h2:j<s.top-1
    ·rw[if_pos h2,if_neg (by omega)]
    ·rw[if_neg h2];by_cases h3:j<s.top-1+lk
     ·rw[if_pos h3,if_pos (by omega)];unfold Sto.words;rw[zzy,if_pos (by omega),zzx];congr 1;omega
     ·rw[if_neg h3,if_neg (by omega)]
  unfold leave;rw[if_neg kg];refine R.zeV (by rw[zy6];exact aK) (fun j h1 h2=>by rw[aY,if_neg (by omega),if_neg (by omega)]) (by omega) (by simp;omega) (fun i w hw=>?_);rw[aY];rw[zzk,zzj,zzf,zzV (by omega)]at hw;split at hw
  ·next br=>
   rw[zzy,if_pos br]at hw;obtain ⟨y,y1,y2⟩:=R.stk i w hw;exact ⟨y,by rw[if_neg (by omega),if_neg (by omega)];exact y1,y2⟩
  ·next br=>
   by_cases h0:i=st.length-lk
   ·subst h0;simp at hw;subst hw;exact ⟨Mk 2 lf,by rw[if_pos (by omega)],rfl⟩
   ·rw[List.singleton_append,show i-(st.length-lk)=(i-(st.length-lk)-1)+1 by omega,zzT,zzx]at hw;have aj:=(zyL.1 hw).1;obtain ⟨y,y1,y2⟩:=R.stk _ w hw;refine ⟨y,?_,y2⟩;rw[if_neg (by omega),if_pos (by omega),<-y1];congr 1;omega
theorem zvi(M:MR sl hf m A φ){n lk lf:Nat}(ht:A.st.getLast?=some (.ad a))(hn:A.h[a]?=some (.clo b fs))(_hb:sl[b]?=some n):zaS sl hf (m.call lk lf) (A.call hf b lk lf fs):=by
 have bU:=M.rel.ok a _ hn;obtain ⟨p,p1,p2,p3,p4,p5,p6⟩:=M.rel.zdB ht hn rfl;have hc:cnt (hdr (.clo b fs))=fs.length:=zi9 bU rfl;unfold MSt.call;rw[p2];simp only;rw[hc];refine zcS M (fun m1 φ1 M1 hr ho=>?_);split
 ·next hg=>
  obtain ⟨q,q1,q2,q3,q4,q5,q6⟩:=M1.rel.zdB ht hn rfl;have cT:sz (.clo b fs)=1+fs.length:=rfl;have gS:=M1.rel.hi;have iY:=M1.rel.ft;have yd:=M1.rel.tp;obtain ⟨u1,u2⟩:=zhQ M1.rel (c:=2) (by omega);have hcut:A.st.take (A.st.length-2)=zcE A.st 2:=rfl;rw[hcut]at u2;have hL:∃ s3,(if lf=0 then some { m1.s with top:=m1.s.top+2 } else Sto.leave { m1.s with top:=m1.s.top+2 } lk lf)=some s3/\Rel s3 m1.fns A.h (leave (zcE A.st 2) lk lf) A.fns φ1/\s3.free=m1.s.free/\m1.s.top<=s3.top/\s3.half=m1.s.half/\s3.ws.length=m1.s.ws.length:=by
   by_cases h0:lf=0
   ·rw[if_pos h0];refine ⟨_,rfl,?_,rfl,by simp only;omega,rfl,rfl⟩;unfold leave;rw[if_pos h0];exact u2
   ·rw[if_neg h0];obtain ⟨s3,l1,l2,l3,l4,l5,l6⟩:=ztq u2 (lk:=lk) (lf:=lf) (by rw[zdF];omega) h0 hg.2 (by simp only;omega);exact ⟨s3,l1,l2,l3,by rw[l4];simp only;omega,l5,l6⟩
  obtain ⟨s3,l1,l2,l3,l4,l5,l6⟩:=hL;obtain ⟨a1,a2,a3⟩:=l2.zi2 q1 hn rfl;have EA:=l2.hi;have Ev:=l2.ft;have Fg:=l2.tp;obtain ⟨f1,f2⟩:=a3.fields (by simp only[zdd];omega);simp only[zdd]at f1 f2;obtain ⟨v1,v2⟩:=zgq l2 (fs:=fs) f1 (by rw[f1];omega) f2;obtain ⟨s4,e4⟩:∃ s4:Sto,s4={ s3 with top:=s3.top-(s3.words (q+1) fs.length).length,ws:=Go.splice s3.ws (s3.top-(s3.words (q+1) fs.length).length) (s3.words (q+1) fs.length) }:=⟨_,rfl⟩;rw[<-e4]at v1 v2;have h4:s4.half=m1.s.half:=by rw[e4];exact l5
  obtain ⟨b1,b2,b3⟩:=v2.zi2 q1 hn rfl;unfold MSt.called;rw[q2];simp only;rw[u1];simp only;rw[l1];simp only;rw[a3.head bU rfl];simp only;rw[hc,if_neg (by omega),v1];simp only;rw[b3.head bU rfl];simp only[zzP];refine zaS.ok (φ:=φ1) ⟨v2,h4.trans M1.half,M1.fuel,?_,M1.below,M1.vi⟩;simp only[hdr];exact zdE (by omega) bU.2
 ·exact zaS.none _ _ _
theorem zpc(M:MR sl hf m A φ)(c:Nat){r:Except Nat (Bool × Ma)}(h:A.za5 hf sl c=some r):
  match r with
  |.error k=>m.za5 sl c=some (.error k)
  |.ok q=>∃ m' φ',m.za5 sl c=some (.ok (q.1,m'))/\MR sl hf m' q.2 φ':=by
 unfold Ma.za5 at h;cases ht:A.st.getLast? with
 |none=>rw[ht]at h;simp at h
 |some w=>
  rw[ht]at h;cases w with
  |mk _ _=>simp at h
  |ad a=>
   simp only at h;cases hn:A.h[a]? with
   |none=>rw[hn]at h;simp at h
   |some nd=>
    rw[hn]at h;have hl:∀ nd',A.h[a]?=some nd'->zaV nd'=false->∃ p,m.s.nodeAt 0=some (p,hdr nd')/\m.s.head p=some (hdr nd')/\m.s.ws[p]?=some (hdr nd')/\0<=hdr nd'/\hdr nd' < 9223372036854775808:=fun nd' gw dr=>by
     obtain ⟨p,p1,p2,p3,p4,p5,p6⟩:=M.rel.zdB ht gw dr;obtain ⟨r1,r2⟩:=zde (M.rel.ok a _ gw);exact ⟨p,p2,p6.head (M.rel.ok a _ gw) rfl,p6.1,r1,r2⟩
    cases nd with
    |num v=>
     simp only at h;cases h;obtain ⟨p,h1,h2,h3,h4,h5⟩:=hl _ hn rfl;simp only;unfold MSt.za5;rw[h1];simp only;unfold Sto.zfJ;rw[h3];simp only;rw[if_neg (by omega),if_neg (by simp[hdr])];simp
    |data t fs=>
     simp only at h;cases h;obtain ⟨p,h1,h2,h3,h4,h5⟩:=hl _ hn rfl;simp only;unfold MSt.za5;rw[h1];simp only;unfold Sto.zfJ;rw[h3];simp only;rw[if_neg (by omega),if_neg (by simp only[hdr];rw[zbx (by omega)];omega)];simp
    |clo b fs=>
     simp only at h;obtain ⟨p,h1,h2,h3,h4,h5⟩:=hl _ hn rfl;have bU:=M.rel.ok a _ hn;cases hb:sl[b]? with
     |none=>rw[hb]at h;simp at h
     |some n=>
      rw[hb]at h;simp only at h;split at h
      ·cases h
      ·next aj=>
       have mO:m.s.zfJ sl p=some ((n:Int)-fs.length):=by
        unfold Sto.zfJ;rw[h3];simp only;rw[if_neg (by omega),if_pos (by simp only[hdr];exact zbx (by omega))];have hw:hdr (.clo b fs)/65536=(b:Int):=by simp only[hdr];exact zdE (by omega) bU.2
        have iG:hdr (.clo b fs)/16%4096=(fs.length:Int):=by simp only[hdr];exact zeb (by omega) bU.2
        rw[hw,zy2,hb,iG]
       have Fj:m.za5 sl c=(if (c:Int)<(n:Int)-fs.length then (match m.extend c with|none=>none|some (.error k)=>some (.error k)|some (.ok m')=>some (.ok (false,m'))) else if 2000000<c then none else (match m.call (n-fs.length) (c-(n-fs.length)) with|none=>none|some (.error k)=>some (.error k)|some (.ok m')=>some (.ok (true,m')))):=by
        unfold MSt.za5;rw[h1];simp only;rw[mO];simp only;rw[if_neg (by omega),show ((n:Int)-fs.length).toNat=n-fs.length by omega];rfl
       rw[Fj];split at h
       ·next aN=>
        rw[if_pos (by omega)];cases he:A.extend hf b c fs with
        |none=>rw[he]at h;simp at h
        |some q=>
         rw[he]at h;have hs:=zrs M (c:=c) ht hn hb q he;cases q with
         |error k=>simp only at h hs;cases h;simp only;rw[hs]
         |ok A'=>
          simp only at h hs;cases h;obtain ⟨m',φ',g1,g2⟩:=hs;simp only;rw[g1];exact ⟨m',φ',rfl,g2⟩
       ·next aN=>
        rw[if_neg (by omega)];split at h
        ·cases h
        ·next DI=>
         rw[if_neg DI];cases he:A.call hf b (n-fs.length) (c-(n-fs.length)) fs with
         |none=>rw[he]at h;simp at h
         |some q=>
          rw[he]at h;have hs:=zvi M (lk:=n-fs.length) (lf:=c-(n-fs.length)) ht hn hb q he;cases q with
          |error k=>simp only at h hs;cases h;simp only;rw[hs]
          |ok A'=>
           simp only at h hs;cases h;obtain ⟨m',φ',g1,g2⟩:=hs;simp only;rw[g1];exact ⟨m',φ',rfl,g2⟩
    |busy=>simp at h
    |fwd b=>simp at h
end Ab
end Go.Proofs.YtgahgkddaljmkaaGreatDoor
