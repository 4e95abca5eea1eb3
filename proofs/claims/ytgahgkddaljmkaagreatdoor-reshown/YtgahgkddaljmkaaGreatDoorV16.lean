/- Sf5 .. Mon1 -/
import Derived.Test.YtgahgkddaljmkaaGreatDoorV15
set_option maxRecDepth 100000
set_option maxHeartbeats 4000000
namespace Go.Proofs.YtgahgkddaljmkaaGreatDoor
open Tryz Th Cp
section
namespace Ab
abbrev TC:=Int × Int × Int × Int
def VX (f:Nat->Option TC) (r:TC):Prop:=∃c,∀g,f (g+c)=some r
end Ab
namespace Sf
open Cp (Nm)
open Ab
variable {X:Cx} {h h':List Nd} {A A':Ma} {F ws:List Wd} {S:List Wd} {B:List Nat}{v:Nat}
theorem zjv{d:Nat}(hd:d<A.st.length)(hs:A.st[A.st.length-1-d]?=some (.ad v))(hv:Vd X.sl A.h v):A.OY d=some (.error 3)\/∃x,A.OY d=some (.ok x):=by
 obtain⟨nd,n1,n2⟩:=hv;unfold Ma.OY;rw[nB hd,hs];simp only;rw[n1];cases nd with
 |num x=>exact .inr ⟨x,rfl⟩
 |data t fs=>exact .inl rfl
 |Jb b fs=>exact .inl rfl
 |busy=>exact n2.elim
 |fwd a=>exact n2.elim
variable {hf:Nat}
theorem zvc{sg:List UInt8}(mU:sg∈Th.MM)(l r:Int)(hG:Good X.sys A):Ok (A.calc hf ⟨⟨sg⟩⟩ l r) λA'=>A'.fuel=A.fuel/\∃w,Ad A'.h w/\Nx X A A' [w]:=by
 have own:∀{A':Ma}{nd:Nd},A'={ A with h:=A.h++[nd],st:=A.st++[.ad A.h.length] }->Good X.sys A'->A'.fuel=A.fuel/\∃w,Ad A'.h w/\Nx X A A' [w]:=λ{A' nd}e hg=>⟨by rw[e],.ad A.h.length,⟨_,rfl,by rw[e];simp⟩,by rw[e],by rw[e],hg,by rw[e];exact G.app nd,by rw[e];exact qP _⟩
 have hp:∀v,Ok (A.N5 hf v) λA'=>A'.fuel=A.fuel/\∃w,Ad A'.h w/\Nx X A A' [w]:=λv=>SF (.done (own rfl ⟨hG.1.app trivial,hG.2.1,yM hG.2.2 (by simp)⟩))
 have ht:∀b,Ok (A.Zq hf b) λA'=>A'.fuel=A.fuel/\∃w,Ad A'.h w/\Nx X A A' [w]:=λb=>(Y8 (X:=X) (nd:=λ_=>.data (if b then 2 else 1) []) (ws:=[]) (st:=A.st) hG (by simp) rfl (by simp) (λfs _ _ f hf=>by simp at hf)).mono λA'⟨fs,_,e2,e3⟩=>own e2 e3
 simp only[Th.MM,Mz,PV,qT]at mU;unfold Ma.calc;rcases mU with rfl|rfl|rfl|rfl|rfl|rfl
 .rw[nB rfl];exact hp _
 .rw[pL (by decide),nB rfl];exact hp _
 .rw[pL (by decide),pL (by decide),nB rfl];exact hp _
 .rw[pL (by decide),pL (by decide),pL (by decide),nB rfl];split
  .exact .inl ⟨3,rfl⟩
  .exact hp _
 .rw[pL (by decide),pL (by decide),pL (by decide),pL (by decide),nB rfl];exact ht _
 .rw[pL (by decide),pL (by decide),pL (by decide),pL (by decide),pL (by decide),nB rfl];exact ht _
theorem zlf{hf t v:Nat}{fs:List Nat}{F0:List Wd}(hG:Good X.sys A)(hs:A.st=S++(F0++[.ad v]))(hK:K X.sys A.h S B)(hB:BZ A.h B)(hw:∀w∈F0,Ad A.h w)(jX:∀f∈fs,f<A.h.length):∀(nA:List (Nat × Nat × Nat)),(∀o∈nA,CB X o.2.2 (F0.length+o.2.1))->Ok (A.OX hf t fs nA) λA'=>Cf X.sys A'/\A'.fuel=A.fuel
 |[],_=>.inl ⟨3,rfl⟩
 |(u,c,b)::l,ha=>by
  rw[Ma.OX];split
  .split
   .next hc=>
    refine SF (.done ⟨⟨hG,S,B,F0++(fs.map Wd.ad).reverse,?_,hK,hB,.inl ⟨b,rfl,(X.sys.cb _ _ (ha (u,c,b) (by simp))).2.2 _ _ (by simp[hc]) λw hm=>?_⟩⟩,rfl⟩)
    .simp only;rw[show Ml A.st 1=S++F0 by rw[hs,<-Np];exact Sy (S++F0) [.ad v],Np]
    .rcases Ni.1 hm with hm|hm
     .exact hw w hm
     .exact zte jX w hm
   .exact .inl ⟨3,rfl⟩
  .exact zlf hG hs hK hB hw jX l λo ho=>ha o (by simp[ho])
variable {b:Nat}
theorem block(hX:X.cd.length<=1000000)(hG:Good X.sys A)(hs:A.st=S++F)(hb:A.below=S.length)(hK:K X.sys A.h S B)(hB:BZ A.h B)(hR:RB X A.h F b):∃is,X.cd[b]?=some (F.length,is)/\Ok (X.ri is A) λA'=>Cf X.sys A'/\A'.fuel<A.fuel:=by
 obtain⟨is,c,hR⟩:=hR;refine⟨is,c,?_⟩;rcases hR with⟨hc,hl,hw⟩|⟨F0,v,m,r,q,b2,sg,ns,rfl,hv,hw,hq,q1,q2,q3,rfl,c2,mU⟩|⟨l,r,sg,rfl,hl,hr,rfl,mU⟩|⟨F0,v,nA,rfl,hv,hw,rfl,ha⟩
 .rcases hc with⟨m,e,q,hq,q1,q2,rfl⟩|⟨t,ht,rfl⟩
  .obtain⟨is,e1,r1⟩:=zq1 hX m hq;rw[e1,q1,MQ];exact r1 (base:=S) (F0:=F) (κ:=[]) rfl ⟨by simp[hs],hb,hG,by simpa using FO.all q2.symm hw⟩ (by simpa using hK) hB
  .refine OI (a:=[_]) (b:=[.enter]) (Pm λh0=>?_);simp only[Ma.step,Ma.Ty];rw[nB ⟨by omega,hl⟩];refine(Y8 (X:=X) (nd:=.data t) (A:={ A with fuel:=A.fuel-1 }) (ws:=F) (st:=S) hG hs rfl hw (λfs _ h0 f hf=>Kl (h0 f hf) (by simp))).mono λA1⟨fs,_,e2,e3⟩=>?_
   refine(zsW (S:=S) (B:=B) (w:=.ad A.h.length) (by rw[e2]) ⟨_,rfl,by rw[e2];simp⟩ (by rw[e2];exact hK.up (G.app _).gv) (by rw[e2];exact(G.app _).bz hB) e3).mono λA2⟨k,f⟩=>⟨k,?_⟩
   rw[e2]at f;simp only at f;omega
 .obtain⟨is,e1,r1⟩:=zq1 hX m hq;have hl:A.st.length=S.length+F0.length+1:=by rw[hs];simp;omega
  have aw:=(Dq.1 c2).1;rw[e1,q1,show[Ds.PJ,.push F0.length,.wait b2]++is=[.PJ]++([.push F0.length]++([.wait b2]++is)) by simp];refine OI (Pm λh0=>?_);simp only[Ma.step];have hn:=zjv (X:=X) (A:={ A with fuel:=A.fuel-1 }) (d:=0) (v:=v) (by simp only;omega) (by simp only;rw[hl,hs,<-Np,Om (by simp)];simp) hv;rcases hn with hn|⟨x,hn⟩
  .rw[hn];exact .inl ⟨3,rfl⟩
  .rw[hn];have r0:Ru X { A with fuel:=A.fuel-1 } (ns++[[]]) S (F0++[.ad v]):=⟨hs,hb,hG,(FO.all q2.symm hw).app (FO.none (ws:=[.ad v]) _ (k:=1) rfl)⟩;refine .done (OI (Pm λ_=>?_));simp only[Ma.step];refine(VL (X:=X) (A:={ A with fuel:=A.fuel-1 }) (w:=.ad v) hG (r0.slot (i:=F0.length) (by simp))).mono λA1⟨x1,x2⟩=>OI (Pm λ_=>?_)
   simp only[Ma.step];rw[Ji];refine(VL (X:=X) (w:=.mk 1 b2) x2.Kt rfl).mono λA2⟨y1,y2⟩=>?_
   have nx:=x2.trans y2;have hf:=nx.fuel;have aG:K X.sys A2.h (S++([.ad v]++[.mk 1 b2])) B:=.wait (hK.up nx.g.gv) (by omega) (λh' v' g dZ=>⟨_,c2,.inr (.inr (.inl ⟨v,v',sg,rfl,g.2 v ((nx.g.gv (Y:=X.sys)).2 v hv),dZ,rfl,mU⟩))⟩);refine(r1 (base:=S) (F0:=F0++[.ad v]) (κ:=[.ad v,.mk 1 b2]) rfl ?_ aG (nx.g.bz hB)).mono λA3⟨k,f⟩=>⟨k,by simp only at hf;omega⟩
   have:=r0.next nx (FO.none (ws:=[.ad v,.mk 1 b2]) _ (k:=2) rfl);rw[q3];simpa using this
 .have xI:A.st.length=S.length+2:=by rw[hs];simp
  refine OI (a:=[_]) (b:=[.enter]) (Pm λh0=>?_);simp only[Ma.step,Ma.compute];have lq:=zjv (X:=X) (A:={ A with fuel:=A.fuel-1 }) (d:=0) (v:=r) (by simp only;omega) (by simp only;rw[xI,hs,Om (by omega),show S.length+2-1-0-S.length=1 by omega];rfl) hr;have cR:=zjv (X:=X) (A:={ A with fuel:=A.fuel-1 }) (d:=1) (v:=l) (by simp only;omega) (by simp only;rw[xI,hs,Om (by omega),show S.length+2-1-1-S.length=0 by omega];rfl) hl;rcases lq with hn|⟨x,hn⟩
  .rw[hn];exact .inl ⟨3,rfl⟩
  .rw[hn];simp only;rcases cR with cR|⟨y,cR⟩
   .rw[cR];exact .inl ⟨3,rfl⟩
   .rw[cR];simp only;rw[show Ml A.st 2=S by rw[hs];exact Sy S [.ad l,.ad r]];refine(zvc (X:=X) (A:={ A with fuel:=A.fuel-1,st:=S }) mU y x hG).mono λA1⟨e0,w,w1,w2⟩=>?_
    refine(zsW (S:=S) (B:=B) w2.st w1 (hK.up w2.g.gv) (w2.g.bz hB) w2.Kt).mono λA2⟨k,f⟩=>⟨k,?_⟩
    rw[e0]at f;simp only at f;omega
 .refine Pm λh0=>?_
  simp only[Ma.step,Ma.choose];rw[show A.st.getLast?=some (.ad v) by rw[hs];simp];simp only;obtain⟨nd,n1,n2⟩:=hv;have mR:=hG.1 v nd n1;rw[n1];cases nd with
  |num x=>exact .inl ⟨3,rfl⟩
  |Jb b fs=>exact .inl ⟨3,rfl⟩
  |busy=>exact n2.elim
  |fwd a=>exact n2.elim
  |data t fs=>exact(zlf (X:=X) (A:={ A with fuel:=A.fuel-1 }) hG hs hK hB hw mR nA ha).mono λA2⟨k,f⟩=>⟨k,by rw[f];simp only;omega⟩
theorem zo1(hX:X.cd.length<=1000000):∀(g:Nat){A:Ma},Cf X.sys A->A.fuel<g->∃r,(∀k,Ma.work X.hf X.cd (g+k) A=some r)/\∀A',r=.ok A'->∃o,A'.told=some o
 |0,_,_,hg=>by omega
 |g+1,A,⟨hG,S,B,F,hs,hK,hB,hn⟩,hg=>by
  rcases hn with⟨b,hn,hR⟩|⟨hn,v,rfl,nd,n1,n2⟩
  .obtain⟨is,c,hb⟩:=block hX (A:={ A with below:=(A.st.length:Int)-F.length }) (S:=S) (B:=B) hG hs (by simp only;rw[hs];simp) hK hB hR;have hw:∀k r,X.ri is { A with below:=(A.st.length:Int)-F.length }=some r->Ma.work X.hf X.cd (g+1+k) A=(match r with|.error j=>some (.error j)|.ok A2=>Ma.work X.hf X.cd (g+k) A2):=λk r hr=>by
    rw[show g+1+k=g+k+1 by omega,Ma.work,qj,qj,show A.next.toNat=b by rw[hn];rfl,c];simp only;rw[show Ma.Nb X.hf X.sl is { A with below:=(A.st.length:Int)-F.length }=some r from hr];cases r<;>rfl
   rcases hb with⟨j,e⟩|⟨A2,e,hc,hf⟩
   .exact⟨.error j,λk=>hw k _ e,λ_ e=>by cases e⟩
   .obtain⟨r,r1,r2⟩:=zo1 hX g hc (by simp only at hf;omega);exact⟨r,λk=>(hw k _ e).trans (r1 k),r2⟩
  .refine⟨.ok A,λk=>by rw[show g+1+k=g+k+1 by omega,Ma.work,nB hn];rfl,λA' e=>?_⟩;cases e;unfold Ma.told;rw[show A.st.getLast?=some (.ad v) by rw[hs];simp];simp only;rw[n1];cases nd with
   |num x=>exact⟨_,rfl⟩
   |data t fs=>exact⟨_,rfl⟩
   |Jb b fs=>exact⟨_,rfl⟩
   |busy=>exact n2.elim
   |fwd a=>exact n2.elim
theorem zqE(hN:X.N=1300):∀(l:List By)(i:Nat)(bl:List (Nat × List Ds)),i+l.length=X.fns.length->X.fns.length<=bl.length->Cp.lines X.fr X.fns X.N i l bl=X.cd ->
  (∀f∈l,Dp X.N f.e/\Cp.wt X.N f.e+f.params.length<=1300/\Kn X (X.fr f.e) (texts f.params).reverse) ->
  (∀(j:Nat)(b:Nat × List Ds),(j<i\/i+l.length<=j)->bl[j]?=some b->X.cd[j]?=some b)/\(∀j,j<l.length->∃k,CB X (i+j) k)/\X.cd.length<=bl.length+8*(l.map λf=>Cp.wt X.N f.e).sum
 |[],i,bl,_,_,h,_=>by rw[Cp.lines]at h;rw[h];exact⟨λ_ _ _ hb=>hb,by simp,by simp⟩
 |f::l,i,bl,hi,hb,h,hf=>by
  obtain⟨f1,f2,f3⟩:=hf f (by simp);rw[Kh]at hi;rw[Cp.lines]at h;obtain⟨sl,aK⟩:∃sl:List Nm,sl=(texts f.params).reverse:=⟨_,rfl⟩;have s8:sl.length=f.params.length:=by rw[aK];simp[texts]
  rw[<-aK]at h f3;obtain⟨⟨⟨more,e1,g1⟩,_⟩,_⟩:=P8 (M:=1300) X.N X.fns (by omega) X.N f.e 0 ⟨bl,sl,[]⟩ f1 f1 (by omega);have aX:=(Oa 1300 X.N X.fns X.N f.e 0 ⟨bl,sl,[]⟩ f1 (by omega)).2.2;obtain⟨q,hq⟩:∃q,q=X.wk X.N f.e 0 ⟨bl,sl,[]⟩:=⟨_,rfl⟩;rw[show Cp.work X.fr X.fns X.N f.e 0 ⟨bl,sl,[]⟩=q from hq.symm]at h e1 aX;simp only at e1 aX;have p7:bl.length<=q.blocks.length:=by rw[e1];simp
  obtain⟨r1,r2,r3⟩:=zqE hN l (i+1) (q.blocks.set i (sl.length,q.code)) (by omega) (by rw[MH];omega) h (λx hx=>hf x (by simp[hx]));have pg:PB X q.blocks:=λj b hj pR=>r1 j b (by omega) (by rw[Kw,qj];exact pR)
  refine⟨λj b hj pR=>r1 j b (by rw[Kh]at hj;omega) ?_,λj hj=>?_,?_⟩
  .rw[Kw,pL (by rw[Kh]at hj;omega),e1,Pq (Dq.1 pR).1];exact pR
  .cases j with
   |zero=>exact⟨sl.length,by omega,q.code,r1 i _ (by omega) (by rw[Kw,nB rfl,Ji]),.inl ⟨X.N,f.e,⟨bl,sl,[]⟩,⟨f1,qP _,by omega,hb,by rw[<-hq];exact pg,f3⟩,rfl,rfl,by rw[hq]⟩⟩
   |succ j=>
    have:=r2 j (by simpa using hj)
    rwa [show i+(j+1)=i+1+j by omega]
  .rw[MH]at r3;rw[Ki,MW];omega
theorem zto{hf:Nat}(hX:X.fns.length<=1000000):∀(m i:Nat){A:Ma},i+m=X.fns.length->(∀j,j<X.fns.length->∃k,CB X j k)->HT X.sys A.h->A.h.length=i->A.fns=List.range i->A.st=[]->Ok (A.NF hf i m) λA'=>Good X.sys A'/\A'.st=[]/\A'.h.length=X.fns.length/\A'.fuel=A.fuel
 |0,i,A,hi,_,ht,hl,hn,hs=>.done ⟨⟨ht,by rw[hn];show _=List.range X.fns.length;rw[<-hi];rfl,by show X.fns.length<=_;omega⟩,hs,by omega,rfl⟩
 |m+1,i,A,hi,hc,ht,hl,hn,hs=>by
  obtain⟨k,hk⟩:=hc i (by omega);rw[Ma.NF];split
  .refine SF (zto hX m (i+1) (A:={ A with h:=A.h++[.Jb i []],fns:=A.fns++[A.h.length] }) (by omega) hc (ht.app ⟨by simp,k,by simp,hk⟩) (by simp[hl]) ?_ hs);simp only;rw[hn,hl,List.range_succ]
  .next h0=>exact absurd (by omega) h0
theorem zjK{l:List By}(ho:XA 1300 l)(hf fuel:Nat):∃r,VX (TF hf (Cp.program 1300 l) l.length ((JE l).idxOf Oy) fuel) r:=by
 obtain⟨X,hX⟩:∃X:Cx,X=⟨hf,Cp.program 1300 l,JE l,1300⟩:=⟨_,rfl⟩;have DZ:X.cd=Cp.program 1300 l:=by rw[hX]
 have xf:X.fns=JE l:=by rw[hX]
 have uD:X.N=1300:=by rw[hX]
 have D0:X.hf=hf:=by rw[hX]
 have bZ:X.fns.length=l.length:=by rw[xf];simp[JE]
 have s9:∀(l:List By),l.length+(l.map λf=>Cp.wt 1300 f.e).sum<=(l.map λf=>Cp.wt 1300 f.e+f.params.length+1).sum:=by
  intro l
  induction l with
  |nil=>simp
  |cons x l ih=>rw[Ki,MW,Ki,MW,Kh];omega
 have dh:=yM (s9 l) ho.sum;obtain⟨_,c2,c3⟩:=zqE uD l 0 (List.replicate l.length (0,[])) (by omega) (by simp;omega) (by rw[hX];rfl) (λf hm=>by have:=ho.each hm;rw[uD];refine⟨ho.dp f hm,by omega,λx hx=>?_⟩;obtain⟨x1,x2⟩:=ho.nm f hm x (by have ij:x∈Cp.free X.N f.e:=hx;rw[uD]at ij;exact ij);exact⟨x1,x2.imp (λk=>by simpa using k) (λk=>by rw[xf];exact k)⟩)
 rw[uD]at c3;simp only[Q3]at c3;have rV:X.cd.length<=1000000:=by omega
 have cL:(JE l).idxOf Oy<X.fns.length:=by rw[xf];exact TI ho.main
 rw[<-DZ,<-D0,<-bZ];unfold TF;have dH:=zto (X:=X) (hf:=X.hf) (by omega) X.fns.length 0 (A:=Ma.new fuel) (by omega) (λj hj=>by have:=c2 j (by omega);rwa [On]at this) (λa nd e=>by simp[Ma.new]at e) rfl rfl rfl;have dY:Ok ((Ma.new fuel).start X.hf (X.cd.map Prod.fst) X.fns.length ((JE l).idxOf Oy)) λA'=>Cf X.sys A':=by
  unfold Ma.start;rcases dH with⟨j,e⟩|⟨A1,e,hg,hs,hl,_⟩
  .rw[e];exact .inl ⟨j,rfl⟩
  .rw[e];simp only;refine SF ?_;rw[show A1.fns[(JE l).idxOf Oy]?=some ((JE l).idxOf Oy) by rw[hg.2.1];exact List.getElem?_range cL];simp only;exact(enter (Y:=X.sys) (S:=[]) (B:=[]) (A:={ A1 with st:=A1.st++[.ad ((JE l).idxOf Oy)] }) (by rw[hs]) (by simp only;omega) .nil ⟨by simp,by simp⟩ hg).mono λA' k=>k.1
 rcases dY with⟨j,e⟩|⟨A1,e,hc⟩
 .exact⟨((j:Int),0,0,0),0,λg=>by rw[e]⟩
 .obtain⟨r,r1,r2⟩:=zo1 rV (A1.fuel+1) hc (by omega);cases r with
  |error j=>exact⟨((j:Int),0,0,0),A1.fuel+1,λg=>by rw[e,Kf];simp only;rw[r1]⟩
  |ok A2=>obtain⟨o,ho⟩:=r2 A2 rfl;exact⟨o,A1.fuel+1,λg=>by rw[e,Kf];simp only;rw[r1];exact ho⟩
end Sf
end
section
namespace Ab
variable {sl:List Nat} {hf:Nat} {m:l0} {A:Ma} {φ:Nat->Option Nat}
abbrev VI (sl:List Nat) (h:List Nd):Prop:=∀(a b:Nat),h[a]?=some (.fwd b)->∃nd,h[b]?=some nd/\val sl nd
variable {h:List Nd}{nd:Nd}
theorem Xv(hv:VI sl h)(hf:Ks nd=false):VI sl (h++[nd]):=by
 intro a b hb;rw[OQ]at hb;split at hb
 .obtain⟨n,h1,h2⟩:=hv a b hb;exact⟨n,by rw[Pq (Dq.1 h1).1];exact h1,h2⟩
 .next nO=>
  have:=(Dq.1 hb).1;simp at this;have h1:a-h.length=0:=by omega
  rw[h1]at hb;simp at hb;rw[hb]at hf;simp[Ks]at hf
theorem WK(M:MR sl hf m A φ)(v:Int):wg sl hf (m.N5 v) (A.N5 hf v):=by refine QS M (λm' φ' M' hr _=>?_);obtain⟨n1,n2⟩:=zmy M'.rel (nd:=.num v) (xs:=[v]) trivial rfl (by simp[sz];omega) (by simp[sz]) (λw hw=>by cases hw;rfl) (λi f hf=>by simp[Mt]at hf);obtain⟨p1,p2⟩:=Sv n2 (x:=m'.s.free) (w:=.ad A.h.length) (by simp[sz];omega) ⟨m'.s.free,rfl,.inl (by simp[grow])⟩;have hd:Ip (.num v)=0:=rfl;rw[hd]at n1 p1;unfold l0.put;rw[n1];simp only[NW];rw[p1];exact wg.ok ⟨p2,M'.half,M'.fuel,M'.next,M'.below,Xv M'.vi rfl⟩
variable {c:Nat}
theorem zi6(M:MR sl hf m A φ){nd:List Nat->Nd}{hd:Int}(hh:∀fs,fs.length=c->Ip (nd fs)=hd/\PT (nd fs)/\Ks (nd fs)=false/\sz (nd fs)=c+1/\(∀v,nd fs≠.num v)/\∀(i f:Nat),(Mt (nd fs))[i]?=some f->fs[i]?=some f):wg sl hf (m.build hd c) (A.SU hf nd c):=by
 refine QS M (λm' φ' M' hr _=>?_);cases ht:O0 A.st c with
 |none=>exact wg.none _ _ _
 |some fs=>
  obtain⟨t1,t2,t3⟩:=YU ht;obtain⟨e1,e2,e3,e4,e5,e6⟩:=hh fs t2;obtain⟨w1,w2⟩:=M'.rel.O0 ht;have fg:=M'.rel.tp;have gS:=M'.rel.hi;obtain⟨n1,n2⟩:=zmy M'.rel (nd:=nd fs) (xs:=m'.s.words m'.s.top c) e2 e3 (by omega) (by rw[w1,e4]) (λv hv=>absurd hv (e5 v)) (λi f dr=>by obtain⟨x,x1,x2⟩:=w2 i f (e6 i f dr);exact⟨x,x1,x2.mono (M'.rel.grown _) Vx⟩)
  obtain⟨q1,q2⟩:=VA n2 (c:=c) t1;obtain⟨p1,p2⟩:=Sv q2 (x:=m'.s.free) (w:=.ad A.h.length) (by simp only;omega) ⟨m'.s.free,rfl,.inl (by simp[grow])⟩;rw[e1]at n1;simp only;rw[nB ⟨by omega,by omega⟩];unfold l0.put;rw[n1];simp only[NW];rw[e1]at q1 p1;rw[q1];simp only[NW];rw[p1];rw[e1]at p2;exact wg.ok ⟨p2,M'.half,M'.fuel,M'.next,M'.below,Xv M'.vi e3⟩
theorem ztM(M:MR sl hf m A φ)(t c:Nat):wg sl hf (m.pack 1 t c) (A.Ty hf t c):=by
 unfold l0.pack Ma.Ty;split
 .next hc=>exact zi6 M (λfs hl=>⟨by simp[Ip,hl],⟨hc.1,by omega⟩,rfl,by simp[sz,hl];omega,by simp,λi f hf=>hf⟩)
 .exact wg.none _ _ _
theorem ztL(M:MR sl hf m A φ)(t c:Nat):wg sl hf (m.pack 2 t c) (A.UW hf t c):=by
 unfold l0.pack Ma.UW;split
 .next hc=>exact zi6 M (λfs hl=>⟨by simp[Ip,hl],⟨hc.1,by omega⟩,rfl,by simp[sz,hl];omega,by simp,λi f hf=>hf⟩)
 .exact wg.none _ _ _
theorem zoP(M:MR sl hf m A φ)(b:Bool):wg sl hf (m.Uv b) (A.Zq hf b):=by
 refine zi6 M (λfs hl=>⟨?_,?_,rfl,by simp[sz],by simp,λi f hf=>by simp[Mt]at hf⟩)
 .cases b<;>rfl
 .cases b<;>exact⟨by decide,by decide⟩
theorem zqu{x:Int}:∀(c:Nat)(s:nG),s.free+c<=s.ws.length->∃ws',s.fill x c=some { s with ws:=ws',free:=s.free+c }/\ws'.length=s.ws.length/\∀j,ws'[j]?=if s.free<=j/\j<s.free+c then some x else s.ws[j]?
 |0,s,_=>⟨s.ws,rfl,rfl,λj=>by rw[qj]⟩
 |c+1,s,h=>by
  obtain⟨ws',h1,h2,h3⟩:=zqu c { s with ws:=s.ws.set s.free x,free:=s.free+1 } (by simp only[MH];omega);refine⟨ws',?_,by rw[h2];simp,λj=>?_⟩
  .rw[nG.fill,Ji,h1];simp only;congr 2;omega
  .rw[h3];simp only;rw[Kw];by_cases e:s.free=j
   .rw[qj,nB e,Ji,Ji]
   .rw[pL e];by_cases h4:s.free+1<=j/\j<s.free+1+c
    .rw[nB h4,Ji]
    .rw[pL h4,qj]
theorem zvD(M:MR sl hf m A φ)(b c:Nat):wg sl hf (m.hold b c) (A.hold hf b c):=by
 unfold l0.hold Ma.hold;split
 .next hc=>
  refine QS M (λm' φ' M' hr _=>?_);have fg:=M'.rel.tp;have gS:=M'.rel.hi;have bg:m'.s.node (Hd 2 b c) []=some { m'.s with free:=m'.s.free+1,ws:=m'.s.ws.set m'.s.free (Hd 2 b c) }:=by unfold nG.node;rw[nB (by simp;omega)];simp[Go.splice]
  obtain⟨ws',f1,f2,f3⟩:=zqu (x:=(m'.s.free:Int)) c { m'.s with free:=m'.s.free+1,ws:=m'.s.ws.set m'.s.free (Hd 2 b c) } (by simp only[MH];omega);simp only[MH]at f2;have aY:∀j,ws'[j]?=if j=m'.s.free then some (Hd 2 b c)else if m'.s.free<j/\j<m'.s.free+1+c then some (m'.s.free:Int)else m'.s.ws[j]?:=by
   intro j;rw[f3];simp only;rw[Kw];by_cases e:m'.s.free=j
   .rw[qj,nB e,Ji,nB e.symm]
   .have e':¬j=m'.s.free:=λx=>e x.symm
    rw[pL e,pL e'];by_cases h4:m'.s.free+1<=j/\j<m'.s.free+1+c
    .rw[nB h4,Ji]
    .rw[pL h4,qj]
  have cT:sz (.Jb b (List.replicate c A.h.length))=1+c:=by simp[sz]
  have kV:∀(i f:Nat),(Mt (.Jb b (List.replicate c A.h.length)))[i]?=some f->∃x,ws'[m'.s.free+1+i]?=some x/\Rf (grow φ' A.h.length m'.s.free) (A.h++[.Jb b (List.replicate c A.h.length)]) x f:=by intro i f hf;simp only[Mt]at hf;have br:=(Dq.1 hf).1;simp at br;have uI:=VP (ML hf);exact⟨m'.s.free,by rw[aY,qj,Ji],⟨m'.s.free,rfl,.inl (by rw[uI];simp[grow])⟩⟩
  have R2:=M'.rel.alloc (ws':=ws') (nd:=.Jb b (List.replicate c A.h.length)) ⟨hc.1,by simp;omega⟩ rfl (by rw[cT];omega) f2 (λj hj=>by rw[cT]at hj;rw[aY,qj,qj]) ⟨(by rw[aY,nB rfl];simp[Ip]),(λv hv=>(by cases hv)),kV⟩;rw[cT]at R2;obtain⟨p1,p2⟩:=Sv R2 (x:=m'.s.free) (w:=.ad A.h.length) (by simp only;omega) ⟨m'.s.free,rfl,.inl (by simp[grow])⟩;unfold l0.put;rw[bg];simp only[NW];rw[f1];simp only[NW];have he:m'.s.free+1+c=m'.s.free+(1+c):=by omega
  rw[he,p1];exact wg.ok ⟨p2,M'.half,M'.fuel,M'.next,M'.below,Xv M'.vi rfl⟩
 .exact wg.none _ _ _
variable {k:Nat}{w:Wd}
theorem zqU(M:MR sl hf m A φ)(hs:A.slot k=some w):∃i x,m.slot k=some i/\m.s.ws[i]?=some x/\RW φ A.h x w/\m.s.top<=i/\i<m.s.low+m.s.half:=by
 unfold Ma.slot at hs;split at hs
 .next h0=>have br:=(Dq.1 hs).1;obtain⟨x,x1,x2⟩:=M.rel.NR _ w hs;have fg:=M.rel.tp;have hb:=M.below;refine⟨m.s.low+m.s.half-1-(A.below.toNat+k),x,?_,x1,x2,by omega,by omega⟩;unfold l0.slot;rw[hb,nB ⟨h0,by omega⟩];congr 1;omega
 .cases hs
theorem zoa(M:MR sl hf m A φ)(k:Nat):wg sl hf (m.YR k) (A.Rk hf λA=>A.slot k):=by
 refine QS M (λm' φ' M' hr ho=>?_);cases hs:A.slot k with
 |none=>simp only[hs];exact wg.none _ _ _
 |some w=>obtain⟨i,x,s1,s2,s3,_⟩:=zqU M' hs;obtain⟨p1,p2⟩:=Sv M'.rel hr s3;simp only[hs,s1,s2];unfold l0.put;rw[p1];exact wg.ok ⟨p2,M'.half,M'.fuel,M'.next,M'.below,M'.vi⟩
theorem zrP(M:MR sl hf m A φ)(f:Nat):wg sl hf (m.PM f) (A.Rk hf λA=>(A.fns[f]?).map Wd.ad):=by
 refine QS M (λm' φ' M' hr ho=>?_);cases hs:A.fns[f]? with
 |none=>simp only[hs,Option.map_none];exact wg.none _ _ _
 |some a=>obtain⟨x,x1,x2⟩:=M'.rel.fn f a hs;obtain⟨p1,p2⟩:=Sv M'.rel hr (w:=.ad a) x2;simp only[hs,x1,Qx];unfold l0.put;rw[p1];exact wg.ok ⟨p2,M'.half,M'.fuel,M'.next,M'.below,M'.vi⟩
theorem zij(M:MR sl hf m A φ)(k b:Nat):wg sl hf (m.RN k b) (if b<=1000000000 then A.Rk hf λ_=>some (.mk k b)else none):=by
 unfold l0.RN;split
 .refine QS M (λm' φ' M' hr ho=>?_);obtain⟨p1,p2⟩:=Sv M'.rel (x:=Mk k b) (w:=.mk k b) hr rfl;simp only;unfold l0.put;rw[p1];exact wg.ok ⟨p2,M'.half,M'.fuel,M'.next,M'.below,M'.vi⟩
 .exact wg.none _ _ _
theorem zut(M:MR sl hf m A φ)(c:Nat):wg sl hf ((m.NG c).map .ok) ((A.NG c).map .ok):=by
 unfold Ma.NG;split
 .next hc=>
  have fg:=M.rel.tp;have gS:=M.rel.hi;have iY:=M.rel.ft;have hb:=M.below;have aN:(m.s.words m.s.top c).length=c:=by unfold nG.words;rw[NQ,Oo];omega
  unfold l0.NG;rw[hb,nB ⟨hc.1,by omega,gS,by omega⟩];simp only[Qx];refine wg.ok (φ:=φ) ⟨?_,M.half,M.fuel,M.next,M.below,M.vi⟩;refine M.rel.Tq (top':=m.s.low+m.s.half-A.below.toNat-c) (Q1 _ _ _ (by rw[aN];omega)) (λj h1 h2=>by rw[Rh _ _ _ _ (by rw[aN];omega),Ji]) (by omega) (by simp;omega) (λi w hw=>?_);rw[Rh _ _ _ _ (by rw[aN];omega),aN];rw[OQ,NQ,Sa (by omega)]at hw;split at hw
  .next br=>rw[Qf,nB br]at hw;obtain⟨y,y1,y2⟩:=M.rel.NR i w hw;exact⟨y,by rw[qj,qj];exact y1,y2⟩
  .next br=>rw[Qe]at hw;have aj:=(Dq.1 hw).1;obtain⟨y,y1,y2⟩:=M.rel.NR _ w hw;refine⟨y,?_,y2⟩;rw[qj,Ji];unfold nG.words;rw[Qf,Ji,Qe];rw[<-y1];congr 1;omega
 .exact wg.none _ _ _
theorem zjw(M:MR sl hf m A φ){d:Nat}{r:Except Nat Int}(h:A.OY d=some r):m.numberAt d=some r:=by
 unfold Ma.OY at h;split at h
 .next hd=>
  obtain⟨w,x,w1,w2,w3⟩:=M.rel.word hd;rw[w1]at h;cases w with
  |mk k b=>simp at h
  |ad a=>
   simp only at h;have key:∀nd,A.h[a]?=some nd->Ks nd=false->∃p:Nat,x=p/\m.s.ws[p]?=some (Ip nd)/\0<=Ip nd/\Ip nd<9223372036854775808/\∀v,nd=.num v->m.s.ws[p+1]?=some v:=λnd hn hf=>by obtain⟨p,p1,p2,p3,p4,p5⟩:=M.rel.Vr w3 hn hf;obtain⟨r1,r2⟩:=Uz (M.rel.ok a nd hn);exact⟨p,p1,p5.1,r1,r2,p5.2.1⟩
   unfold l0.numberAt;rw[w2];simp only;cases hn:A.h[a]? with
   |none=>rw[hn]at h;simp at h
   |some nd=>
    rw[hn]at h;cases nd with
    |num v=>cases h;obtain⟨p,rfl,p2,p3,p4,p5⟩:=key _ hn rfl;rw[qj,MO,p2];simp only;rw[qj,nB (by simp[Ip]),p5 v rfl]
    |data t fs=>cases h;obtain⟨p,rfl,p2,p3,p4,p5⟩:=key _ hn rfl;rw[qj,MO,p2];simp only;rw[qj,pL (by simp only[Ip];rw[Pg];omega)]
    |Jb t fs=>cases h;obtain⟨p,rfl,p2,p3,p4,p5⟩:=key _ hn rfl;rw[qj,MO,p2];simp only;rw[qj,pL (by simp only[Ip];rw[Pg];omega)]
    |busy=>simp at h
    |fwd b=>simp at h
 .cases h
theorem zpD(M:MR sl hf m A φ):wg sl hf ((m.numberAt 0).map λq=>q.map λ_=>m) ((A.OY 0).map λq=>q.map λ_=>A):=by
 cases h:A.OY 0 with
 |none=>exact wg.none _ _ _
 |some r=>
  rw[zjw M h];cases r with
  |error k=>exact wg.error _ _ _
  |ok v=>exact wg.ok M
theorem zvd(M:MR sl hf m A φ)(sg:ByteArray)(l r:Int):wg sl hf (m.calc sg l r) (A.calc hf sg l r):=by
 unfold l0.calc Ma.calc;split
 .exact WK M _
 .split
  .exact WK M _
  .split
   .exact WK M _
   .split
    .split
     .exact wg.error _ _ _
     .exact WK M _
    .split
     .exact zoP M _
     .split
      .exact zoP M _
      .exact wg.none _ _ _
theorem zpo(M:MR sl hf m A φ)(sg:ByteArray):wg sl hf (m.compute sg) (A.compute hf sg):=by
 unfold l0.compute Ma.compute;cases h0:A.OY 0 with
 |none=>exact wg.none _ _ _
 |some r0=>
  rw[zjw M h0];cases r0 with
  |error k=>exact wg.error _ _ _
  |ok r=>
   simp only;cases h1:A.OY 1 with
   |none=>exact wg.none _ _ _
   |some r1=>
    rw[zjw M h1];cases r1 with
    |error k=>exact wg.error _ _ _
    |ok l=>
     simp only;have hl:2<=A.st.length:=by
      unfold Ma.OY at h1;split at h1
      .omega
      .cases h1
     obtain⟨q1,q2⟩:=VA M.rel hl;rw[q1];exact zvd (m:={ m with s:={ m.s with top:=m.s.top+2 } }) (A:={ A with st:=Ml A.st 2 }) ⟨q2,M.half,M.fuel,M.next,M.below,M.vi⟩ sg l r
variable {sl:List Nat} {hf:Nat} {m:l0} {A:Ma} {φ:Nat->Option Nat}{s:nG}{fc:List Int}{st:List Wd}{fns:List Nat}{a:Nat}
theorem Rel.UN(R:Rel s fc h st fns φ){p:Nat}(hp:φ a=some p)(hn:h[a]?=some nd)(hf:Ks nd=false):s.low<=p/\p+sz nd<=s.free/\Rr s.ws (Rf φ h) p nd:=by
 obtain⟨q,e,h1,h2,h3,h4⟩:=R.Vr (x:=p) ⟨p,rfl,.inl hp⟩ hn hf;have:q=p:=by omega
 subst this;exact⟨h2,h3,h4⟩
theorem zgn(h:st.getLast?=some w):0<st.length/\st[st.length-1]?=some w:=by rw[List.getLast?_eq_getElem?]at h;exact⟨by have:=(Dq.1 h).1;omega,h⟩
theorem Rel.Ql(R:Rel s fc h st fns φ)(ht:st.getLast?=some (.ad a))(hn:h[a]?=some nd)(hf:Ks nd=false):∃p,φ a=some p/\s.nodeAt 0=some (p,Ip nd)/\s.ws[s.top]?=some (p:Int)/\s.low<=p/\p+sz nd<=s.free/\Rr s.ws (Rf φ h) p nd:=by obtain⟨h0,h1⟩:=zgn ht;obtain⟨w,x,w1,w2,w3⟩:=R.word (d:=0) h0;rw[S0,h1]at w1;cases w1;obtain⟨p,rfl,p2,p3,p4,p5⟩:=R.Vr w3 hn hf;rw[PU]at w2;refine⟨p,p2,?_,w2,p3,p4,p5⟩;unfold nG.nodeAt;rw[PU,w2];simp only;rw[qj,MO,p5.head (R.ok a nd hn) rfl];rfl
theorem Xo(h:PT nd)(hf:Ks nd=false):MA (Ip nd)=(Mt nd).length:=by unfold MA;exact ztf h hf
theorem zqC{nd':Nd}(hn:h[a]?=some nd)(hf:Ks nd=false):∀(c b:Nat),h[c]?=some (.fwd b)->(h.set a nd')[c]?=some (.fwd b):=by intro c b hb;rw[Kw,pL (λe=>by subst e;rw[hn]at hb;cases hb;simp[Ks]at hf)];exact hb
theorem zw3{nd':Nd}(hv:VI sl h)(hn:h[a]?=some nd)(_hf:Ks nd=false)(h1:Ks nd'=false)(h2:val sl nd->val sl nd'):VI sl (h.set a nd'):=by
 have aU:=(Dq.1 hn).1;intro c b hb;rw[Kw]at hb;by_cases e0:a=c
 .rw[nB e0,nB aU]at hb;cases hb;simp[Ks]at h1
 .rw[pL e0]at hb;obtain⟨n,g1,g2⟩:=hv c b hb;by_cases e:a=b
  .subst e;rw[hn]at g1;cases g1;exact⟨nd',by rw[Kw,nB rfl,nB aU],h2 g2⟩
  .exact⟨n,by rw[Kw,pL e];exact g1,g2⟩
theorem zvw(M:MR sl hf m A φ)(k c:Nat):wg sl hf (m.VF k c) (A.fill k c):=by
 unfold Ma.fill;cases hs:A.slot k with
 |none=>exact wg.none _ _ _
 |some w=>
  cases w with
  |mk _ _=>exact wg.none _ _ _
  |ad a=>
   simp only;cases hn:A.h[a]? with
   |none=>exact wg.none _ _ _
   |some nd=>
    cases nd with
    |Jb b fs=>
     simp only;split
     .next bZ=>
      cases ht:O0 A.st c with
      |none=>exact wg.none _ _ _
      |some gs=>
       obtain⟨i,x,s1,s2,s3,s4,s5⟩:=zqU M hs;obtain⟨p,rfl,p2,p3,p4,p5⟩:=M.rel.Vr s3 hn rfl;obtain⟨t1,t2,t3⟩:=YU ht;obtain⟨w1,w2⟩:=M.rel.O0 ht;have bU:=M.rel.ok a _ hn;have fg:=M.rel.tp;have gS:=M.rel.hi;have iY:=M.rel.ft;have cT:sz (.Jb b fs)=1+c:=by simp[sz,bZ]
       rw[cT]at p4;have iG:MA (Ip (.Jb b fs))=c:=by rw[Xo bU rfl];exact bZ
       unfold l0.VF;rw[s1];simp only;rw[s2];simp only;rw[qj,MO,p5.head bU rfl];simp only;rw[nB ⟨iG,by omega,by omega,by omega⟩];have aY:∀j,(Go.splice m.s.ws (p+1) (m.s.words m.s.top c))[j]?=if j<p+1 then m.s.ws[j]? else if j<p+1+c then(m.s.words m.s.top c)[j-(p+1)]? else m.s.ws[j]?:=λj=>by rw[Rh _ _ _ _ (by rw[w1];omega),w1]
       have R2:=M.rel.zxM (ws':=Go.splice m.s.ws (p+1) (m.s.words m.s.top c)) (nd':=.Jb b gs) p2 hn rfl ⟨bU.1,by rw[t2];exact bZ▸bU.2⟩ (by simp[sz,bZ,t2]) (Q1 _ _ _ (by rw[w1];omega))
        (λj hj=>by rw[cT]at hj;rw[aY];by_cases h1:j<p+1;rw[nB h1];rw[pL h1,qj])
        (.inr ⟨rfl,by rw[aY,Ji,p5.1];simp[Ip,bZ,t2],λv hv=>(by cases hv),λi f dr=>by obtain⟨y,y1,y2⟩:=w2 i f dr;have:=(Dq.1 y1).1;exact⟨y,by rw[aY,qj,Ji,show p+1+i-(p+1)=i by omega];exact y1,y2.mono (λ_ _ z=>z) (zqC hn rfl)⟩⟩)
        (λe=>by simp[Ks]at e) (λb' e=>by cases e)
       obtain⟨q1,q2⟩:=VA R2 t1;unfold l0.put;rw[q1];refine wg.ok ⟨q2,M.half,M.fuel,M.next,M.below,zw3 M.vi hn rfl rfl (λhv=>?_)⟩;obtain⟨n,n1,n2⟩:=hv;exact⟨n,n1,by rw[t2];rw[bZ]at n2;exact n2⟩
     .exact wg.none _ _ _
    |_=>exact wg.none _ _ _
variable {b n:Nat}{fs:List Nat}
theorem zsF(M:MR sl hf m A φ)(ht:A.st.getLast?=some (.ad a))(hn:A.h[a]?=some (.Jb b fs))(hb:sl[b]?=some n)(hl:n=fs.length):wg sl hf m.Qn (A.Qn hf a b fs):=by
 have bU:=M.rel.ok a _ hn;obtain⟨p,p1,p2,p3,p4,p5,p6⟩:=M.rel.Ql ht hn rfl;unfold l0.Qn;rw[p2];simp only;have hc:MA (Ip (.Jb b fs))=fs.length:=Xo bU rfl;rw[hc];refine QS M (λm1 φ1 M1 hr ho=>?_);obtain⟨q,q1,q2,q3,q4,q5,q6⟩:=M1.rel.Ql ht hn rfl;obtain⟨u1,u2⟩:=Sv M1.rel (x:=Mk 0 0) (w:=.mk 0 0) (by omega) rfl;obtain⟨s2,e2⟩:∃s2:nG,s2={ m1.s with top:=m1.s.top-1,ws:=m1.s.ws.set (m1.s.top-1) (Mk 0 0) }:=⟨_,rfl⟩;rw[<-e2]at u1 u2;have g2:s2.free=m1.s.free/\s2.top=m1.s.top-1:=by rw[e2];exact⟨rfl,rfl⟩
 obtain⟨a1,a2,a3⟩:=u2.UN q1 hn rfl;have cT:sz (.Jb b fs)=1+fs.length:=rfl;have ss:=u2.hi;have se:=u2.ft;have tu:=u2.tp;obtain⟨f1,f2⟩:=a3.fields (by simp only[Mt];omega);simp only[Mt]at f1 f2;obtain⟨v1,v2⟩:=zgq u2 (fs:=fs) f1 (by rw[f1];omega) f2;obtain⟨s3,e3⟩:∃s3:nG,s3={ s2 with top:=s2.top-(s2.words (q+1) fs.length).length,ws:=Go.splice s2.ws (s2.top-(s2.words (q+1) fs.length).length) (s2.words (q+1) fs.length) }:=⟨_,rfl⟩;rw[<-e3]at v1 v2;have h3:s3.half=m1.s.half:=by rw[e3,e2]
 obtain⟨b1,b2,b3⟩:=v2.UN q1 hn rfl;have p7:=(Dq.1 b3.1).1;have R4:=v2.zxM (ws':=s3.ws.set q (Hd 3 0 0)) (nd':=.busy) q1 hn rfl trivial (by simp[sz]) (by simp) (λj hj=>by rw[Kw,qj])
  (.inr ⟨rfl,(by rw[Kw,nB rfl,nB p7];rfl),λv hv=>(by cases hv),λi f dr=>(by simp[Mt]at dr)⟩) (λe=>by simp[Ks]at e) (λb' e=>by cases e)
 unfold l0.begun;rw[q2];simp only;rw[u1];simp only;rw[a3.head bU rfl];simp only;rw[hc,qj,v1];simp only;rw[b3.head bU rfl];simp only[Qx];refine wg.ok (φ:=φ1) ⟨R4,h3.trans M1.half,M1.fuel,?_,M1.below,zw3 M1.vi hn rfl rfl (λhv=>?_)⟩
 .simp only[Ip];exact RP (by omega) bU.2
 .obtain⟨n',n1,n2⟩:=hv;rw[hb]at n1;cases n1;omega
theorem zrg(M:MR sl hf m A φ)(nA:List (Nat × Nat × Nat)):wg sl hf (m.choose nA) (A.choose hf nA):=by
 unfold Ma.choose;cases ht:A.st.getLast? with
 |none=>exact wg.none _ _ _
 |some w=>
  cases w with
  |mk _ _=>exact wg.none _ _ _
  |ad a=>
   simp only;cases hn:A.h[a]? with
   |none=>exact wg.none _ _ _
   |some nd=>
    cases nd with
    |num v=>obtain⟨p,p1,p2,_⟩:=M.rel.Ql ht hn rfl;unfold l0.choose;rw[p2];simp only;rw[pL (by simp[Ip])];exact wg.error _ _ _
    |Jb b fs=>obtain⟨p,p1,p2,_⟩:=M.rel.Ql ht hn rfl;unfold l0.choose;rw[p2];simp only;rw[pL (by simp only[Ip];rw[Pg];omega)];exact wg.error _ _ _
    |data t fs=>
     obtain⟨p,p1,p2,_⟩:=M.rel.Ql ht hn rfl;have bU:=M.rel.ok a _ hn;have hk:Ip (.data t fs)%16=1:=by simp only[Ip];exact Pg
     have hw:Ip (.data t fs)/65536=(t:Int):=by simp only[Ip];exact RP (by omega) bU.2
     have hc:MA (Ip (.data t fs))=fs.length:=Xo bU rfl;unfold l0.choose;rw[p2];simp only;rw[nB hk];clear p1
     induction nA with
     |nil=>exact wg.error _ _ _
     |cons arm l ih=>
      obtain⟨u,c,b⟩:=arm;rw[l0.OX,Ma.OX,hw];by_cases hu:u=t
      .rw[Ji,nB hu];unfold l0.split;rw[p2];simp only;rw[hc];by_cases uH:c=fs.length
       .rw[nB uH,nB uH];refine QS M (λm1 φ1 M1 hr ho=>?_);obtain⟨q,q1,q2,q3,q4,q5,q6⟩:=M1.rel.Ql ht hn rfl;obtain⟨g0,_⟩:=zgn ht;obtain⟨u1,u2⟩:=VA M1.rel (c:=1) (by omega);obtain⟨a1,a2,a3⟩:=u2.UN q1 hn rfl;have cT:sz (.data t fs)=1+fs.length:=rfl;have ss:=u2.hi;have se:=u2.ft;have tu:=u2.tp;simp only at a2 ss se tu;obtain⟨f1,f2⟩:=a3.fields (s:={ m1.s with top:=m1.s.top+1 }) (by simp only[Mt];omega);obtain⟨v1,v2⟩:=zgq u2 (fs:=fs) f1 (by rw[f1];simp only[Mt];omega) f2;unfold l0.Ze;rw[q2];simp only;rw[u1];simp only;rw[hc,qj];simp only[Mt]at v1;rw[v1];simp only[Qx];exact wg.ok (φ:=φ1) ⟨v2,M1.half,M1.fuel,rfl,M1.below,M1.vi⟩
       .rw[pL uH,pL uH];exact wg.error _ _ _
      .rw[qj,pL hu];exact ih
    |_=>exact wg.none _ _ _
variable {sl:List Nat} {hf:Nat} {m:l0} {A:Ma} {φ:Nat->Option Nat}
theorem Y4{i:Nat}(h:(Ml st c)[i]?=some w):st[i]?=some w:=by
 unfold Ml at h;rw[Qf]at h;split at h
 .exact h
 .cases h
theorem RQ(st:List Wd)(c:Nat):(Ml st c).length=st.length-c:=by unfold Ml;rw[NQ];omega
theorem zrs(M:MR sl hf m A φ)(ht:A.st.getLast?=some (.ad a))(hn:A.h[a]?=some (.Jb b fs))(_hb:sl[b]?=some n):wg sl hf (m.extend c) (A.extend hf b c fs):=by
 have bU:=M.rel.ok a _ hn;obtain⟨p,p1,p2,p3,p4,p5,p6⟩:=M.rel.Ql ht hn rfl;have hc:MA (Ip (.Jb b fs))=fs.length:=Xo bU rfl;unfold l0.extend;rw[p2];simp only;rw[hc];refine QS M (λm1 φ1 M1 hr ho=>?_);split
 .next hg=>
  cases fg:O0 (Ml A.st 2) c with
  |none=>exact wg.none _ _ _
  |some gs=>
   obtain⟨t1,t2,t3⟩:=YU fg;rw[RQ]at t1;obtain⟨q,q1,q2,q3,q4,q5,q6⟩:=M1.rel.Ql ht hn rfl;have cT:sz (.Jb b fs)=1+fs.length:=rfl;have gS:=M1.rel.hi;have iY:=M1.rel.ft;have yd:=M1.rel.tp;obtain⟨f1,f2⟩:=q6.fields (by simp only[Mt];omega);simp only[Mt]at f1 f2;have hw:Ip (.Jb b fs)/65536=(b:Int):=by simp only[Ip];exact RP (by omega) bU.2
   have bg:m1.s.node (Hd 2 b (fs.length+c)) (m1.s.words (q+1) fs.length)=some { m1.s with free:=m1.s.free+1+fs.length,ws:=Go.splice (m1.s.ws.set m1.s.free (Hd 2 b (fs.length+c))) (m1.s.free+1) (m1.s.words (q+1) fs.length) }:=by unfold nG.node;rw[f1,Ji]
   obtain⟨s2,e2⟩:∃s2:nG,s2={ m1.s with free:=m1.s.free+1+fs.length,ws:=Go.splice (m1.s.ws.set m1.s.free (Hd 2 b (fs.length+c))) (m1.s.free+1) (m1.s.words (q+1) fs.length) }:=⟨_,rfl⟩;rw[<-e2]at bg;have rq:s2.free=m1.s.free+1+fs.length:=by rw[e2]
   have DJ:s2.top=m1.s.top:=by rw[e2]
   have zB:s2.ws.length=m1.s.ws.length:=by rw[e2];simp only;rw[Q1 _ _ _ (by rw[MH,f1];omega),MH]
   have gI:∀j,s2.ws[j]?=if j=m1.s.free then some (Hd 2 b (fs.length+c))else if m1.s.free<j/\j<m1.s.free+1+fs.length then(m1.s.words (q+1) fs.length)[j-(m1.s.free+1)]? else m1.s.ws[j]?:=by
    intro j;rw[e2];simp only;rw[Rh _ _ _ _ (by rw[MH,f1];omega),f1];by_cases h1:j=m1.s.free
    .rw[Ji,nB h1,h1,Kw,nB rfl,Ji]
    .have cS:(m1.s.ws.set m1.s.free (Hd 2 b (fs.length+c)))[j]?=m1.s.ws[j]?:=by rw[Kw,pL (λe=>h1 e.symm)]
     rw[pL h1];by_cases h2:j<m1.s.free+1
     .rw[nB h2,qj,cS]
     .rw[pL h2];by_cases h3:j<m1.s.free+1+fs.length
      .rw[nB h3,Ji]
      .rw[pL h3,qj,cS]
   have eE:(s2.words (s2.top+2) c).length=c:=by unfold nG.words;rw[NQ,Oo];omega
   have Fs:∀i,i<c->(s2.words (s2.top+2) c)[i]?=m1.s.ws[m1.s.top+(2+i)]?:=λi hi=>by unfold nG.words;rw[Qf,nB hi,Qe,DJ,gI,qj,qj,show m1.s.top+2+i=m1.s.top+(2+i) by omega]
   obtain⟨pC,e3⟩:∃pC,pC=Go.splice s2.ws s2.free (s2.words (s2.top+2) c):=⟨_,rfl⟩;have DK:pC.length=m1.s.ws.length:=by rw[e3,Q1 _ _ _ (by rw[eE];omega),zB]
   have jG:∀j,pC[j]?=if j<s2.free then s2.ws[j]? else if j<s2.free+c then(s2.words (s2.top+2) c)[j-s2.free]? else s2.ws[j]?:=λj=>by rw[e3,Rh _ _ _ _ (by rw[eE];omega),eE]
   have ph:sz (.Jb b (fs++gs))=1+fs.length+c:=by simp[sz,t2];omega
   have kV:∀(i f:Nat),(Mt (.Jb b (fs++gs)))[i]?=some f->∃x,pC[m1.s.free+1+i]?=some x/\Rf (grow φ1 A.h.length m1.s.free) (A.h++[.Jb b (fs++gs)]) x f:=by
    intro i f dr;simp only[Mt]at dr;rw[OQ]at dr;split at dr
    .next br=>obtain⟨x,x1,x2⟩:=f2 i f dr;refine⟨x,?_,x2.mono (M1.rel.grown _) Vx⟩;rw[jG,Ji,gI,qj,Ji,show m1.s.free+1+i-(m1.s.free+1)=i by omega];exact x1
    .next br=>have fX:=(Dq.1 dr).1;have dY:=Y4 (t3 (i-fs.length) f dr);rw[RQ]at dY;obtain⟨w,x,w1,w2,w3⟩:=M1.rel.word (d:=2+(i-fs.length)) (by omega);rw[show A.st.length-1-(2+(i-fs.length))=A.st.length-2-1-(i-fs.length) by omega,dY]at w1;cases w1;refine⟨x,?_,Rf.mono (M1.rel.grown _) Vx w3⟩;rw[jG,qj,Ji,show m1.s.free+1+i-s2.free=i-fs.length by omega,Fs _ (by omega)];exact w2
   have R2:=M1.rel.alloc (ws':=pC) (nd:=.Jb b (fs++gs)) ⟨bU.1,by rw[IJ,t2];exact hg.1⟩ rfl (by rw[ph];omega) DK (λj hj=>by
    rw[ph]at hj;rw[jG];by_cases h1:j<s2.free
    .rw[nB h1,gI,qj,qj]
    .rw[pL h1,qj,gI,qj,qj])
    ⟨(by rw[jG,Ji,gI,nB rfl];simp only[Ip];rw[IJ,t2]),(λv hv=>(by cases hv)),kV⟩
   rw[ph]at R2;obtain⟨u1,u2⟩:=VA R2 (c:=2+c) (by omega);obtain⟨v1,v2⟩:=Sv u2 (x:=m1.s.free) (w:=.ad A.h.length) (by simp only;omega) ⟨m1.s.free,rfl,.inl (by simp[grow])⟩;unfold l0.extended;rw[q2];simp only;rw[hc,hw,MO,nB ⟨hg.1,by have:=bU.1;omega,by omega,by omega,hg.2⟩,bg];simp only;rw[nB ⟨by rw[gI,qj,qj];exact q6.1,zB,by omega,by omega⟩];have bP:({ s2 with ws:=Go.splice s2.ws s2.free (s2.words (s2.top+2) c),free:=s2.free+c }:nG)={ m1.s with ws:=pC,free:=m1.s.free+(1+fs.length+c) }:=by rw[<-e3,rq];rw[e2];simp only[nG.mk.injEq];refine⟨trivial,trivial,trivial,by omega,trivial⟩
   rw[bP,u1];simp only[NW];rw[v1];simp only[Qx];exact wg.ok ⟨v2,M1.half,M1.fuel,M1.next,M1.below,Xv M1.vi rfl⟩
 .exact wg.none _ _ _
theorem ztq(R:Rel s fc h st fns φ){lk lf:Nat}(hl:lk<=st.length)(kg:lf≠0)(bZ:lf<=1000000)(ew:s.free+1<=s.top):∃s',s.leave lk lf=some s'/\Rel s' fc h (leave st lk lf) fns φ/\s'.free=s.free/\s'.top=s.top-1/\s'.half=s.half/\s'.ws.length=s.ws.length:=by
 have fg:=R.tp;have gS:=R.hi;have aN:(s.words s.top lk).length=lk:=by unfold nG.words;rw[NQ,Oo];omega
 have aK:(Go.splice s.ws (s.top-1) (s.words s.top lk)).length=s.ws.length:=Q1 _ _ _ (by rw[aN];omega);refine⟨{ s with top:=s.top-1,ws:=(Go.splice s.ws (s.top-1) (s.words s.top lk)).set (s.top-1+lk) (Mk 2 lf) },?_,?_,rfl,rfl,rfl,by simp only[MH];exact aK⟩
 .unfold nG.leave;rw[nB ⟨by omega,by omega,bZ⟩]
 .have aY:∀j,((Go.splice s.ws (s.top-1) (s.words s.top lk)).set (s.top-1+lk) (Mk 2 lf))[j]?=if j=s.top-1+lk then some (Mk 2 lf)else if s.top-1<=j/\j<s.top-1+lk then s.ws[j+1]? else s.ws[j]?:=by
   intro j;rw[Kw,aK];by_cases h1:s.top-1+lk=j
   .rw[nB h1,Ji,nB h1.symm]
   .have iB:¬j=s.top-1+lk:=λe=>h1 e.symm
    rw[pL h1,pL iB,Rh _ _ _ _ (by rw[aN];omega),aN];by_cases h2:j<s.top-1
    .rw[nB h2,qj]
    .rw[pL h2];by_cases h3:j<s.top-1+lk
     .rw[nB h3,Ji];unfold nG.words;rw[Qf,Ji,Qe];congr 1;omega
     .rw[pL h3,qj]
  unfold leave;rw[pL kg];refine R.Tq (by rw[MH];exact aK) (λj h1 h2=>by rw[aY,qj,qj]) (by omega) (by simp;omega) (λi w hw=>?_);rw[aY];rw[Np,OQ,NQ,Sa (by omega)]at hw;split at hw
  .next br=>rw[Qf,nB br]at hw;obtain⟨y,y1,y2⟩:=R.NR i w hw;exact⟨y,by rw[qj,qj];exact y1,y2⟩
  .next br=>
   by_cases h0:i=st.length-lk
   .subst h0;simp at hw;subst hw;exact⟨Mk 2 lf,by rw[Ji],rfl⟩
   .rw[I8,show i-(st.length-lk)=(i-(st.length-lk)-1)+1 by omega,R7,Qe]at hw;have aj:=(Dq.1 hw).1;obtain⟨y,y1,y2⟩:=R.NR _ w hw;refine⟨y,?_,y2⟩;rw[qj,Ji,<-y1];congr 1;omega
theorem zvi(M:MR sl hf m A φ){lk lf:Nat}(ht:A.st.getLast?=some (.ad a))(hn:A.h[a]?=some (.Jb b fs))(_hb:sl[b]?=some n):wg sl hf (m.call lk lf) (A.call hf b lk lf fs):=by
 have bU:=M.rel.ok a _ hn;obtain⟨p,p1,p2,p3,p4,p5,p6⟩:=M.rel.Ql ht hn rfl;have hc:MA (Ip (.Jb b fs))=fs.length:=Xo bU rfl;unfold l0.call;rw[p2];simp only;rw[hc];refine QS M (λm1 φ1 M1 hr ho=>?_);split
 .next hg=>
  obtain⟨q,q1,q2,q3,q4,q5,q6⟩:=M1.rel.Ql ht hn rfl;have cT:sz (.Jb b fs)=1+fs.length:=rfl;have gS:=M1.rel.hi;have iY:=M1.rel.ft;have yd:=M1.rel.tp;obtain⟨u1,u2⟩:=VA M1.rel (c:=2) (by omega);have hcut:A.st.take (A.st.length-2)=Ml A.st 2:=rfl;rw[hcut]at u2;have hL:∃s3,(if lf=0 then some { m1.s with top:=m1.s.top+2 }else nG.leave { m1.s with top:=m1.s.top+2 } lk lf)=some s3/\Rel s3 m1.fns A.h (leave (Ml A.st 2) lk lf) A.fns φ1/\s3.free=m1.s.free/\m1.s.top<=s3.top/\s3.half=m1.s.half/\s3.ws.length=m1.s.ws.length:=by
   by_cases h0:lf=0
   .rw[nB h0];refine⟨_,rfl,?_,rfl,by simp only;omega,rfl,rfl⟩;unfold leave;rw[nB h0];exact u2
   .rw[pL h0];obtain⟨s3,l1,l2,l3,l4,l5,l6⟩:=ztq u2 (lk:=lk) (lf:=lf) (by rw[RQ];omega) h0 hg.2 (by simp only;omega);exact⟨s3,l1,l2,l3,by rw[l4];simp only;omega,l5,l6⟩
  obtain⟨s3,l1,l2,l3,l4,l5,l6⟩:=hL;obtain⟨a1,a2,a3⟩:=l2.UN q1 hn rfl;have EA:=l2.hi;have Ev:=l2.ft;have Fg:=l2.tp;obtain⟨f1,f2⟩:=a3.fields (by simp only[Mt];omega);simp only[Mt]at f1 f2;obtain⟨v1,v2⟩:=zgq l2 (fs:=fs) f1 (by rw[f1];omega) f2;obtain⟨s4,e4⟩:∃s4:nG,s4={ s3 with top:=s3.top-(s3.words (q+1) fs.length).length,ws:=Go.splice s3.ws (s3.top-(s3.words (q+1) fs.length).length) (s3.words (q+1) fs.length) }:=⟨_,rfl⟩;rw[<-e4]at v1 v2;have h4:s4.half=m1.s.half:=by rw[e4];exact l5
  obtain⟨b1,b2,b3⟩:=v2.UN q1 hn rfl;unfold l0.called;rw[q2];simp only;rw[u1];simp only;rw[l1];simp only;rw[a3.head bU rfl];simp only;rw[hc,qj,v1];simp only;rw[b3.head bU rfl];simp only[Qx];refine wg.ok (φ:=φ1) ⟨v2,h4.trans M1.half,M1.fuel,?_,M1.below,M1.vi⟩;simp only[Ip];exact RP (by omega) bU.2
 .exact wg.none _ _ _
theorem zpc(M:MR sl hf m A φ)(c:Nat){r:Except Nat (Bool × Ma)}(h:A.NX hf sl c=some r):
  match r with
  |.error k=>m.NX sl c=some (.error k)
  |.ok q=>∃m' φ',m.NX sl c=some (.ok (q.1,m'))/\MR sl hf m' q.2 φ':=by
 unfold Ma.NX at h;cases ht:A.st.getLast? with
 |none=>rw[ht]at h;simp at h
 |some w=>
  rw[ht]at h;cases w with
  |mk _ _=>simp at h
  |ad a=>
   simp only at h;cases hn:A.h[a]? with
   |none=>rw[hn]at h;simp at h
   |some nd=>
    rw[hn]at h;have hl:∀nd',A.h[a]?=some nd'->Ks nd'=false->∃p,m.s.nodeAt 0=some (p,Ip nd')/\m.s.head p=some (Ip nd')/\m.s.ws[p]?=some (Ip nd')/\0<=Ip nd'/\Ip nd' < 9223372036854775808:=λnd' gw dr=>by obtain⟨p,p1,p2,p3,p4,p5,p6⟩:=M.rel.Ql ht gw dr;obtain⟨r1,r2⟩:=Uz (M.rel.ok a _ gw);exact⟨p,p2,p6.head (M.rel.ok a _ gw) rfl,p6.1,r1,r2⟩
    cases nd with
    |num v=>simp only at h;cases h;obtain⟨p,h1,h2,h3,h4,h5⟩:=hl _ hn rfl;simp only;unfold l0.NX;rw[h1];simp only;unfold nG.Qo;rw[h3];simp only;rw[qj,pL (by simp[Ip])];simp
    |data t fs=>simp only at h;cases h;obtain⟨p,h1,h2,h3,h4,h5⟩:=hl _ hn rfl;simp only;unfold l0.NX;rw[h1];simp only;unfold nG.Qo;rw[h3];simp only;rw[qj,pL (by simp only[Ip];rw[Pg];omega)];simp
    |Jb b fs=>
     simp only at h;obtain⟨p,h1,h2,h3,h4,h5⟩:=hl _ hn rfl;have bU:=M.rel.ok a _ hn;cases hb:sl[b]? with
     |none=>rw[hb]at h;simp at h
     |some n=>
      rw[hb]at h;simp only at h;split at h
      .cases h
      .next aj=>
       have mO:m.s.Qo sl p=some ((n:Int)-fs.length):=by
        unfold nG.Qo;rw[h3];simp only;rw[qj,nB (by simp only[Ip];exact Pg)];have hw:Ip (.Jb b fs)/65536=(b:Int):=by simp only[Ip];exact RP (by omega) bU.2
        have iG:Ip (.Jb b fs)/16%4096=(fs.length:Int):=by simp only[Ip];exact UE (by omega) bU.2
        rw[hw,MO,hb,iG]
       have Fj:m.NX sl c=(if(c:Int)<(n:Int)-fs.length then(match m.extend c with|none=>none|some (.error k)=>some (.error k)|some (.ok m')=>some (.ok (false,m')))else if 2000000<c then none else(match m.call (n-fs.length) (c-(n-fs.length))with|none=>none|some (.error k)=>some (.error k)|some (.ok m')=>some (.ok (true,m')))):=by unfold l0.NX;rw[h1];simp only;rw[mO];simp only;rw[qj,show((n:Int)-fs.length).toNat=n-fs.length by omega];rfl
       rw[Fj];split at h
       .next aN=>
        rw[Ji];cases he:A.extend hf b c fs with
        |none=>rw[he]at h;simp at h
        |some q=>
         rw[he]at h;have hs:=zrs M (c:=c) ht hn hb q he;cases q with
         |error k=>simp only at h hs;cases h;simp only;rw[hs]
         |ok A'=>simp only at h hs;cases h;obtain⟨m',φ',g1,g2⟩:=hs;simp only;rw[g1];exact⟨m',φ',rfl,g2⟩
       .next aN=>
        rw[qj];split at h
        .cases h
        .next DI=>
         rw[pL DI];cases he:A.call hf b (n-fs.length) (c-(n-fs.length)) fs with
         |none=>rw[he]at h;simp at h
         |some q=>
          rw[he]at h;have hs:=zvi M (lk:=n-fs.length) (lf:=c-(n-fs.length)) ht hn hb q he;cases q with
          |error k=>simp only at h hs;cases h;simp only;rw[hs]
          |ok A'=>simp only at h hs;cases h;obtain⟨m',φ',g1,g2⟩:=hs;simp only;rw[g1];exact⟨m',φ',rfl,g2⟩
    |busy=>simp at h
    |fwd b=>simp at h
variable {sl:List Nat} {hf:Nat} {m:l0} {A:Ma} {φ:Nat->Option Nat}
theorem zne(hk:k<4)(hb:b<1000000000:=by omega):waits (Mk k b)=some (k,b):=by
 unfold waits Mk;rw[Ji];congr 2
 .omega
 .omega
variable {v:Nat}
theorem zsi(M:MR sl hf m A φ){j0:Nat}{nv:Nd}(h3:3<=A.st.length)(hv:A.st[A.st.length-1]?=some (.ad v))(_hk:A.st[A.st.length-2]?=some (.mk 0 j0))(hc:A.st[A.st.length-3]?=some (.ad c))(hb:A.h[c]?=some .busy)(ay:A.h[v]?=some nv)(ed:val sl nv):
  ∃s',m.s.update=some s'/\MR sl hf { m with s:=s' } { A with h:=A.h.set c (.fwd v),st:=Ml A.st 3++[.ad v] } φ:=by
 have AU:=zxZ ed;have AT:v≠c:=λe=>by subst e;rw[hb]at ay;cases ay;exact ed
 have fg:=M.rel.tp;have gS:=M.rel.hi;have iY:=M.rel.ft;have eE:=M.rel.wl;obtain⟨w,x,w1,w2,w3⟩:=M.rel.word (d:=0) (by omega);rw[S0,hv]at w1;cases w1;rw[PU]at w2;obtain⟨w,y,y1,y2,y3⟩:=M.rel.word (d:=2) (by omega);rw[show A.st.length-1-2=A.st.length-3 by omega,hc]at y1;cases y1;obtain⟨pv,rfl,v2,v3,v4,v5⟩:=M.rel.Vr w3 ay AU;obtain⟨pc,rfl,c2,c3,c4,c5⟩:=M.rel.Vr y3 hb rfl;have hs:=SK nv;have mT:sz .busy=1:=rfl;rw[mT]at c4;refine⟨{ m.s with ws:=(m.s.ws.set pc (Hd 4 pv 0)).set (m.s.top+2) pv,top:=m.s.top+2 },?_,?_⟩
 .unfold nG.update;rw[w2];simp only;rw[y2];simp only;rw[nB ⟨by omega,by omega,by omega,by omega⟩,MO,MO]
 .have mR:∀(x' b':Nat),A.h[x']?=some (.fwd b')->b'≠c:=λx' b' hx e=>by
   obtain⟨n',g1,g2⟩:=M.vi x' b' hx;rw[e,hb]at g1;cases g1;exact g2
  have R1:=M.rel.zxM (ws':=m.s.ws.set pc (Hd 4 pv 0)) (nd':=.fwd v) c2 hb rfl trivial (by simp[sz]) (by simp) (λj hj=>by rw[Kw,pL (by simp only[sz]at hj;omega)])
   (.inl ⟨v,pv,rfl,v2,by rw[Kw,nB rfl,Ji]⟩) (λ_=>mR) (λb' e=>by cases e;exact⟨AT,nv,ay,AU⟩)
  have dC:∀(c' b':Nat),A.h[c']?=some (.fwd b')->(A.h.set c (.fwd v))[c']?=some (.fwd b'):=zqC hb rfl;have R2:=R1.Tq (ws':=(m.s.ws.set pc (Hd 4 pv 0)).set (m.s.top+2) pv) (top':=m.s.top+2) (st':=Ml A.st 3++[.ad v]) (by simp) (λj h1 h2=>by simp only at h1 h2|-;rw[Kw,qj]) (by simp only;omega) (by simp only[IJ,Ng,RQ];omega) (λi w hw=>by
   simp only;rw[OQ,RQ]at hw;split at hw
   .next br=>have fY:=Y4 hw;obtain⟨z,z1,z2⟩:=R1.NR i w fY;simp only at z1;exact⟨z,by rw[Kw,qj];exact z1,z2⟩
   .next br=>
    have:=(Dq.1 hw).1;simp at this;have h1:i-(A.st.length-3)=0:=by omega
    rw[h1]at hw;simp at hw;subst hw;refine⟨pv,by rw[show m.s.low+m.s.half-1-i=m.s.top+2 by omega,Kw,nB rfl,nB (by rw[MH];omega)],⟨pv,rfl,.inl v2⟩⟩)
  refine⟨R2,M.half,M.fuel,M.next,M.below,λa b oQ=>?_⟩;have aN:=(Dq.1 hb).1;simp only at oQ|-;rw[Kw]at oQ;by_cases e:c=a
  .rw[nB e,nB aN]at oQ;cases oQ;exact⟨nv,by rw[Kw,pL (λe=>AT e.symm)];exact ay,ed⟩
  .rw[pL e]at oQ;obtain⟨n',g1,g2⟩:=M.vi a b oQ;exact⟨n',by rw[Kw,pL (λe=>mR a b oQ e.symm)];exact g1,g2⟩
theorem WW:∀(g:Nat)(m:l0)(A:Ma)(φ:Nat->Option Nat),MR sl hf m A φ->wg sl hf (m.MZ sl g) (A.MZ hf sl g)
 |0,_,_,_,_=>wg.none _ _ _
 |g+1,m,A,φ,M=>by
  have fg:=M.rel.tp;have iY:=M.rel.ft;have uM:=M.rel.lf;have eE:=M.rel.wl;have gS:=M.rel.hi;rw[Ma.MZ,l0.MZ];by_cases h1:A.st.length<=1
  .rw[nB h1,Ji];exact wg.ok ⟨M.rel,M.half,M.fuel,rfl,M.below,M.vi⟩
  .rw[pL h1,qj];obtain⟨w,x,w1,w2,w3⟩:=M.rel.word (d:=1) (by omega);rw[show A.st.length-1-1=A.st.length-2 by omega]at w1;rw[w1];cases w with
   |ad a=>exact wg.none _ _ _
   |mk k b=>
    have hx:x=Mk k b:=w3;simp only;by_cases iC:1000000000<=b
    .rw[nB iC];exact wg.none _ _ _
    .rw[pL iC,w2,hx];simp only;by_cases dF:k=0
     .subst dF;rw[nB rfl,zne (by omega)];simp only;rw[nB trivial];cases hv:A.st[A.st.length-1]? with
      |none=>exact wg.none _ _ _
      |some wv=>
       cases wv with
       |mk _ _=>exact wg.none _ _ _
       |ad v=>
        simp only;by_cases h3:3<=A.st.length
        .rw[nB h3];cases hc:A.st[A.st.length-3]? with
         |none=>exact wg.none _ _ _
         |some wc=>
          cases wc with
          |mk _ _=>exact wg.none _ _ _
          |ad c=>
           simp only;have go:∀nv,A.h[c]?=some .busy->A.h[v]?=some nv->val sl nv->wg sl hf (match m.s.update with|none=>none|some s'=>l0.MZ sl g { m with s:=s' }) (Ma.MZ hf sl g { A with h:=A.h.set c (.fwd v),st:=Ml A.st 3++[.ad v] }):=λnv hb ay ed=>by obtain⟨s',u1,u2⟩:=zsi M h3 hv w1 hc hb ay ed;rw[u1];exact WW g _ _ φ u2
           cases iG:A.h[c]? with
           |none=>exact wg.none _ _ _
           |some nc=>
            cases hvn:A.h[v]? with
            |none=>cases nc<;>exact wg.none _ _ _
            |some nv=>
             cases nc with
             |busy=>
              cases nv with
              |num z=>exact go _ iG hvn trivial
              |data t fs=>exact go _ iG hvn trivial
              |Jb b' fs=>
               simp only;by_cases ed:∃n,sl[b']?=some n/\fs.length<n
               .rw[nB ed];exact go _ iG hvn ed
               .rw[pL ed];exact wg.none _ _ _
              |busy=>exact wg.none _ _ _
              |fwd _=>exact wg.none _ _ _
             |num _=>exact wg.none _ _ _
             |data _ _=>exact wg.none _ _ _
             |Jb _ _=>exact wg.none _ _ _
             |fwd _=>exact wg.none _ _ _
        .rw[pL h3];exact wg.none _ _ _
     .rw[pL dF];by_cases cK:k=1
      .subst cK;rw[nB rfl,zne (by omega)];simp only;rw[qj,nB trivial];cases hv:A.st[A.st.length-1]? with
       |none=>exact wg.none _ _ _
       |some wv=>
        cases wv with
        |mk _ _=>exact wg.none _ _ _
        |ad v=>
         obtain⟨w,y,y1,y2,y3⟩:=M.rel.word (d:=0) (by omega);rw[S0,hv]at y1;cases y1;rw[PU]at y2;simp only;rw[y2];simp only;have R2:=M.rel.Tq (ws':=m.s.ws.set (m.s.top+1) y) (top':=m.s.top+1) (st':=Ml A.st 2++[.ad v]) (by simp) (λj h1 h2=>by rw[Kw,qj]) (by omega) (by simp only[IJ,Ng,RQ];omega) (λi w hw=>by
          rw[OQ,RQ]at hw;split at hw
          .next br=>obtain⟨z,z1,z2⟩:=M.rel.NR i w (Y4 hw);exact⟨z,by rw[Kw,qj];exact z1,z2⟩
          .next br=>
           have:=(Dq.1 hw).1;simp at this;have h1:i-(A.st.length-2)=0:=by omega
           rw[h1]at hw;simp at hw;subst hw;exact⟨y,by rw[show m.s.low+m.s.half-1-i=m.s.top+1 by omega,Kw,nB rfl,Ji],y3⟩)
         have dW:nG.pop { m.s with ws:=m.s.ws.set (m.s.top+1) y } 1=some { m.s with ws:=m.s.ws.set (m.s.top+1) y,top:=m.s.top+1 }:=by unfold nG.pop;rw[nB (by simp only;omega)]
         rw[dW];exact wg.ok (φ:=φ) ⟨R2,M.half,M.fuel,rfl,M.below,M.vi⟩
      .rw[pL cK];by_cases aG:k=2
       .subst aG;rw[nB rfl,zne (by omega)];simp only;rw[qj,qj,nB trivial];cases ha:A.NX hf sl b with
        |none=>exact wg.none _ _ _
        |some r=>
         have hs:=zpc M b ha;cases r with
         |error j=>simp only at hs;rw[hs];exact wg.error _ _ _
         |ok q=>
          simp only at hs;obtain⟨m',φ',g1,g2⟩:=hs;rw[g1];simp only;by_cases hq:q.1=true
          .rw[nB hq,nB hq];exact wg.ok g2
          .rw[pL hq,pL hq];exact WW g _ _ _ g2
       .rw[pL aG];exact wg.none _ _ _
theorem zlM(R:Rel s fc h st fns φ){x:Int}(h0:0<st.length)(hw:RW φ h x w):Rel { s with ws:=s.ws.set s.top x } fc h (Ml st 1++[w]) fns φ:=by
 have fg:=R.tp;have gS:=R.hi;have iY:=R.ft;have:=R.Tq (ws':=s.ws.set s.top x) (top':=s.top) (st':=Ml st 1++[w]) (by simp) (λj h1 h2=>by rw[Kw,qj]) iY (by simp only[IJ,Ng,RQ];omega) (λi w' fY=>by
  rw[OQ,RQ]at fY;split at fY
  .next br=>obtain⟨z,z1,z2⟩:=R.NR i w' (Y4 fY);exact⟨z,by rw[Kw,qj];exact z1,z2⟩
  .next br=>
   have:=(Dq.1 fY).1;simp at this;have h1:i-(st.length-1)=0:=by omega
   rw[h1]at fY;simp at fY;subst fY;exact⟨x,by rw[show s.low+s.half-1-i=s.top by omega,Kw,nB rfl,Ji],hw⟩)
 exact this
theorem zpr(M:MR sl hf m A φ){p:Nat}(ht:A.st.getLast?=some (.ad a))(hn:A.h[a]?=some nd)(gr:Ks nd=false)(hp:φ a=some p):
  wg sl hf (m.Sx sl p) (match nd with
   |.busy=>some (.error 5)
   |.num _=>A.MZ hf sl (A.st.length+1)
   |.data _ _=>A.MZ hf sl (A.st.length+1)
   |.Jb b fs=>(match sl[b]? with|none=>none|some n=>if n=fs.length then A.Qn hf a b fs else if fs.length<n then A.MZ hf sl (A.st.length+1)else none)
   |_=>none):=by
 have bU:=M.rel.ok a _ hn;obtain⟨q1,q2,q3⟩:=M.rel.UN hp hn gr;obtain⟨r1,r2⟩:=Uz bU;have fg:=M.rel.tp;have hh:m.ztg=A.st.length+1:=by unfold l0.ztg;omega
 unfold l0.Sx;rw[q3.head bU rfl];simp only;cases nd with
 |num v=>rw[pL (by simp[Ip])];unfold nG.Qo;rw[q3.1];simp only;rw[qj,pL (by simp[Ip])];simp only;rw[qj,hh];exact WW _ _ _ _ M
 |data t fs=>rw[pL (by simp only[Ip];rw[Pg];omega)];unfold nG.Qo;rw[q3.1];simp only;rw[qj,pL (by simp only[Ip];rw[Pg];omega)];simp only;rw[qj,hh];exact WW _ _ _ _ M
 |busy=>rw[nB (by simp only[Ip];exact Pg)];exact wg.error _ _ _
 |fwd b=>simp[Ks]at gr
 |Jb b fs=>
  simp only;cases hb:sl[b]? with
  |none=>exact wg.none _ _ _
  |some n=>
   simp only;have mO:m.s.Qo sl p=some ((n:Int)-fs.length):=by
    unfold nG.Qo;rw[q3.1];simp only;rw[qj,nB (by simp only[Ip];exact Pg)];have hw:Ip (.Jb b fs)/65536=(b:Int):=by simp only[Ip];exact RP (by omega) bU.2
    have iG:Ip (.Jb b fs)/16%4096=(fs.length:Int):=by simp only[Ip];exact UE (by omega) bU.2
    rw[hw,MO,hb,iG]
   rw[pL (by simp only[Ip];rw[Pg];omega),mO];simp only;by_cases ev:n=fs.length
   .rw[Ji,nB ev];exact zsF M ht hn hb ev
   .rw[qj,pL ev];by_cases aj:fs.length<n
    .rw[nB aj,hh];exact WW _ _ _ _ M
    .rw[pL aj];exact wg.none _ _ _
theorem znN(M:MR sl hf m A φ):wg sl hf (m.enter sl) (A.enter hf sl):=by
 unfold Ma.enter;cases ht:A.st.getLast? with
 |none=>exact wg.none _ _ _
 |some w=>
  cases w with
  |mk _ _=>exact wg.none _ _ _
  |ad a=>
   obtain⟨g0,g1⟩:=zgn ht;obtain⟨w,x,w1,w2,w3⟩:=M.rel.word (d:=0) g0;rw[S0,g1]at w1;cases w1;rw[PU]at w2;have fg:=M.rel.tp;have gS:=M.rel.hi;have eE:=M.rel.wl;have sD:(Ml A.st 1++[Wd.ad (can A.h a)]).length=A.st.length:=by simp only[IJ,Ng,RQ];omega
   have tr:(Ml A.st 1++[Wd.ad (can A.h a)]).getLast?=some (.ad (can A.h a)):=by simp
   have key:∃nd p m',A.h[can A.h a]?=some nd/\Ks nd=false/\φ (can A.h a)=some p/\MR sl hf m' { A with st:=Ml A.st 1++[.ad (can A.h a)] } φ/\m.enter sl=m'.Sx sl p:=by
    obtain⟨q,rfl,hq⟩:=w3;have plain:∀(c:Nat)(nd:Nd),φ c=some q->A.h[c]?=some nd->Ks nd=false->can A.h a=c->∃nd p m',A.h[can A.h a]?=some nd/\Ks nd=false/\φ (can A.h a)=some p/\MR sl hf m' { A with st:=Ml A.st 1++[.ad (can A.h a)] } φ/\m.enter sl=m'.Sx sl p:=λc nd hc hn gr jk=>by obtain⟨b1,b2,b3⟩:=M.rel.UN hc hn gr;have bU:=M.rel.ok c nd hn;have R2:=zlM M.rel (x:=q) (w:=.ad (can A.h a)) g0 ⟨q,rfl,.inl (by rw[jk];exact hc)⟩;rw[zqR w2]at R2;refine⟨nd,q,m,by rw[jk];exact hn,gr,by rw[jk];exact hc,⟨R2,M.half,M.fuel,M.next,M.below,M.vi⟩,?_⟩;unfold l0.enter nG.nodeAt;rw[PU,w2];simp only;rw[qj,MO,b3.head bU rfl];simp only[Qx];rw[pL (zmn gr).1]
    rcases hq with hq|⟨b,hb,hq⟩
    .obtain⟨nd,n1,n2,n3,n4⟩:=M.rel.N3 a q hq;rcases n4 with⟨b,p',rfl,n5,n6⟩|⟨n5,_⟩
     .obtain⟨nb,iJ,jZ⟩:=M.rel.fw a b n1;obtain⟨FJ,c1,c2,c3,_⟩:=M.rel.N3 b p' n5;have ak:=M.rel.ft;have hk:Hd 4 p' 0%16=4:=Pg;have hw:Hd 4 p' 0/65536=(p':Int):=RP (by omega);have jk:can A.h a=b:=UL n1;have R2:=zlM M.rel (x:=p') (w:=.ad (can A.h a)) g0 ⟨p',rfl,.inl (by rw[jk];exact n5)⟩;refine⟨nb,p',{ m with s:={ m.s with ws:=m.s.ws.set m.s.top p' } },by rw[jk];exact iJ,jZ,by rw[jk];exact n5,⟨R2,M.half,M.fuel,M.next,M.below,M.vi⟩,?_⟩;have eB:=SK FJ;unfold l0.enter nG.nodeAt nG.head;rw[PU,w2];simp only;rw[qj,MO,n6];simp only;rw[pL (by unfold Hd;omega)];simp only[Qx];rw[nB hk,qj,hw,MO]
     .exact plain a nd hq n1 n5 (Uy n1 n5)
    .obtain⟨nb,iJ,jZ⟩:=M.rel.fw a b hb;exact plain b nb hq iJ jZ (UL hb)
   obtain⟨nd,p,m',k1,k2,k3,k4,k5⟩:=key;rw[k5];have hs:=zpr k4 tr k1 k2 k3;rw[sD]at hs;simp only;rw[k1];cases nd<;>first|exact hs|simp[Ks]at k2
theorem zwo(M:MR sl hf m A φ)(i:Ds):wg sl hf (m.step sl i) (A.step hf sl i):=by
 cases i with
 |push k=>exact zoa M k
 |PM f=>exact zrP M f
 |num v=>exact WK M v
 |pack t c=>exact ztM M t c
 |close b c=>exact ztL M b c
 |hold b c=>exact zvD M b c
 |fill k c=>exact zvw M k c
 |wait b=>exact zij M 1 b
 |N6 c=>exact zij M 2 c
 |NG c=>exact zut M c
 |PJ=>exact zpD M
 |comp sg=>exact zpo M sg
 |enter=>exact znN M
 |jump b=>exact wg.ok ⟨M.rel,M.half,M.fuel,rfl,M.below,M.vi⟩
 |choose nA=>exact zrg M nA
theorem zlK:∀(l:List Ds)(m:l0)(A:Ma)(φ:Nat->Option Nat),MR sl hf m A φ->wg sl hf (m.Nb sl l) (A.Nb hf sl l)
 |[],m,A,φ,M=>wg.ok M
 |i::l,m,A,φ,M=>by
  rw[Ma.Nb,l0.Nb];unfold l0.SM;rw[M.fuel];by_cases h0:A.fuel=0
  .rw[nB h0,nB h0];exact wg.error _ _ _
  .rw[pL h0,pL h0];simp only;have M1:MR sl hf { m with o:={ m.o with fuel:=A.fuel-1 } } { A with fuel:=A.fuel-1 } φ:=⟨M.rel,M.half,rfl,M.next,M.below,M.vi⟩;cases hs:Ma.step hf sl { A with fuel:=A.fuel-1 } i with
   |none=>exact wg.none _ _ _
   |some r=>
    have hr:=zwo M1 i r hs;cases r with
    |error k=>simp only at hr;rw[hr];exact wg.error _ _ _
    |ok A2=>simp only at hr;obtain⟨m2,φ2,g1,g2⟩:=hr;rw[g1];exact zlK l m2 A2 φ2 g2
theorem zq3(cd:List (Nat × List Ds)):∀(g:Nat)(m:l0)(A:Ma)(φ:Nat->Option Nat),MR (cd.map Prod.fst) hf m A φ->wg (cd.map Prod.fst) hf (m.work cd g) (A.work hf cd g)
 |0,_,_,_,_=>wg.none _ _ _
 |g+1,m,A,φ,M=>by
  rw[Ma.work,l0.work,M.next];by_cases h1:A.next=-1
  .rw[nB h1,nB h1];exact wg.ok M
  .rw[pL h1,pL h1];by_cases h2:A.next<0
   .rw[nB h2,nB h2];exact wg.none _ _ _
   .rw[pL h2,pL h2];cases hc:cd[A.next.toNat]? with
    |none=>exact wg.none _ _ _
    |some b=>
     obtain⟨n,is⟩:=b;simp only;have fg:=M.rel.tp;have M1:MR (cd.map Prod.fst) hf { m with o:={ m.o with below:=(m.s.low:Int)+(m.s.half:Int)-(m.s.top:Int)-(n:Int) } } { A with below:=(A.st.length:Int)-n } φ:=⟨M.rel,M.half,M.fuel,M.next,by simp only;omega,M.vi⟩;cases hs:Ma.Nb hf (cd.map Prod.fst) is { A with below:=(A.st.length:Int)-n }with
     |none=>exact wg.none _ _ _
     |some r=>
      have hr:=zlK is _ _ φ M1 r hs;cases r with
      |error k=>simp only at hr;rw[hr];exact wg.error _ _ _
      |ok A2=>simp only at hr;obtain⟨m2,φ2,g1,g2⟩:=hr;rw[g1];exact zq3 cd g m2 A2 φ2 g2
theorem zly:∀(k i:Nat)(m:l0)(A:Ma)(φ:Nat->Option Nat),MR sl hf m A φ->wg sl hf (m.NF i k) (A.NF hf i k)
 |0,_,m,A,φ,M=>wg.ok M
 |k+1,i,m,A,φ,M=>by
  rw[l0.NF,Ma.NF];by_cases hi:i<=1000000000
  .rw[nB hi];refine QS M (λm1 φ1 M1 hr ho=>?_);obtain⟨n1,n2⟩:=zmy M1.rel (nd:=.Jb i []) (xs:=[]) ⟨hi,by simp⟩ rfl (by simp[sz];omega) (by simp[sz]) (λv hv=>by cases hv) (λj f hf=>by simp[Mt]at hf);have hd:Ip (.Jb i [])=Hd 2 i 0:=rfl;rw[hd]at n1 n2;rw[n1];simp only;refine zly k (i+1) _ _ (grow φ1 A.h.length m1.s.free) ⟨?_,M1.half,M1.fuel,M1.next,M1.below,Xv M1.vi rfl⟩;refine⟨n2.low,n2.len,n2.wl,n2.lf,n2.ft,n2.tp,n2.NR,by simp[n2.fl],λj a ha=>?_,n2.N3,n2.Qz,n2.ok,n2.fw⟩;simp only at ha|-;rw[OQ]at ha;split at ha
   .next gT=>obtain⟨x,x1,x2⟩:=n2.fn j a ha;exact⟨x,by rw[Pq (by have:=n2.fl;omega)];exact x1,x2⟩
   .next gT=>
    have:=(Dq.1 ha).1;simp at this;have h1:j-A.fns.length=0:=by omega
    rw[h1]at ha;simp at ha;subst ha;have bZ:=n2.fl;have hj:j=m1.fns.length:=by omega
    exact⟨m1.s.free,by rw[hj];simp,⟨m1.s.free,rfl,.inl (by simp[grow])⟩⟩
  .rw[pL hi];exact wg.none _ _ _
variable {nf main:Nat}
theorem zux(M:MR sl hf m A φ)(h1:m.o.nf=nf)(h2:m.o.main=main):wg sl hf (m.start sl) (A.start hf sl nf main):=by
 unfold l0.start Ma.start;rw[h1,MO];cases hl:A.NF hf 0 nf with
 |none=>exact wg.none _ _ _
 |some r=>
  have hr:=zly nf 0 m A φ M r hl;cases r with
  |error k=>simp only at hr;rw[hr];exact wg.error _ _ _
  |ok A1=>
   simp only at hr;obtain⟨m1,φ1,g1,g2⟩:=hr;rw[g1];simp only;have ho:m1.o.main=main:=by
    have:∀(k i:Nat)(m m1:l0),m.NF i k=some (.ok m1)->m1.o=m.o:=by
     intro k
     induction k with
     |zero=>intro i m m1 h;simp[l0.NF]at h;rw[h]
     |succ k ih=>
      intro i m m1 h;rw[l0.NF]at h;unfold Nj at h;cases hn:m.M8 1 with
      |none=>rw[hn]at h;simp at h
      |some q=>
       rw[hn]at h;cases q with
       |error j=>simp at h
       |ok m2=>
        simp only at h;have jo:m2.o=m.o:=by
         unfold l0.M8 at hn;split at hn
         .cases hn;rfl
         .split at hn
          .cases hn
          .split at hn
           .simp at hn
           .cases hn;rfl
        split at h
        .cases h
        .exact(ih _ _ _ h).trans jo
    rw[this nf 0 m m1 g1];exact h2
   refine QS g2 (λm2 φ2 M2 hr jb=>?_);have cL:m2.o.main=main:=by rw[jb];exact ho
   rw[cL,qj,MO];cases dr:A1.fns[main]? with
   |none=>simp only[];exact wg.none _ _ _
   |some a=>obtain⟨x,x1,x2⟩:=M2.rel.fn main a dr;obtain⟨p1,p2⟩:=Sv M2.rel hr (w:=.ad a) x2;simp only[x1,p1];exact znN (m:={ m2 with s:={ m2.s with top:=m2.s.top-1,ws:=m2.s.ws.set (m2.s.top-1) x } }) (A:={ A1 with st:=A1.st++[.ad a] }) ⟨p2,M2.half,M2.fuel,M2.next,M2.below,M2.vi⟩
variable {r:Int × Int × Int × Int}
theorem zwu(M:MR sl hf m A φ)(h:A.told=some r):m.told=some r:=by
 unfold Ma.told at h;cases ht:A.st.getLast? with
 |none=>rw[ht]at h;simp at h
 |some w=>
  rw[ht]at h;cases w with
  |mk _ _=>simp at h
  |ad a=>
   simp only at h;cases hn:A.h[a]? with
   |none=>rw[hn]at h;simp at h
   |some nd=>
    rw[hn]at h;cases nd with
    |num v=>obtain⟨p,p1,p2,p3,p4,p5,p6⟩:=M.rel.Ql ht hn rfl;cases h;unfold l0.told;rw[p2];simp only;rw[nB (by simp[Ip]),p6.2.1 v rfl]
    |data t fs=>
     obtain⟨p,p1,p2,p3,p4,p5,p6⟩:=M.rel.Ql ht hn rfl;have bU:=M.rel.ok a _ hn;cases h;unfold l0.told;rw[p2];simp only;have hk:Ip (.data t fs)%16=1:=by simp only[Ip];exact Pg
     rw[qj,nB hk];simp only[Ip];rw[RP (by omega) bU.2,UE (by omega) bU.2]
    |Jb b fs=>
     obtain⟨p,p1,p2,p3,p4,p5,p6⟩:=M.rel.Ql ht hn rfl;cases h;unfold l0.told;rw[p2];simp only;have hk:Ip (.Jb b fs)%16=2:=by simp only[Ip];exact Pg
     rw[qj,qj]
    |busy=>simp at h
    |fwd b=>simp at h
variable {cd:List (Nat × List Ds)}
theorem zt2{pv:Value}{words fuel g:Nat}(hw:words<=1000000)(h:TF (words/2) cd nf main fuel g=some r):runM pv cd nf main words fuel g=some r:=by
 have M0:MR (cd.map Prod.fst) (words/2) (l0.new pv nf main words fuel) (Ma.new fuel) (λ_=>none):=by refine⟨⟨.inl rfl,by simp only[l0.new,Q3];omega,by simp only[l0.new,Q3];exact hw,qP _,by simp[l0.new],by simp[l0.new,Ma.new],by simp[Ma.new],rfl,by simp[Ma.new],by simp,by simp,by simp[Ma.new],by simp[Ma.new]⟩,rfl,rfl,rfl,rfl,by simp[Ma.new]⟩
 unfold TF at h;unfold runM;cases hs:(Ma.new fuel).start (words/2) (cd.map Prod.fst) nf main with
 |none=>rw[hs]at h;simp at h
 |some q=>
  rw[hs]at h;have hq:=zux M0 (nf:=nf) (main:=main) rfl rfl q hs;cases q with
  |error k=>simp only at h hq;cases h;rw[hq]
  |ok A1=>
   simp only at h hq;obtain⟨m1,φ1,g1,g2⟩:=hq;rw[g1];simp only;cases hw:Ma.work (words/2) cd g A1 with
   |none=>rw[hw]at h;simp at h
   |some q2=>
    rw[hw]at h;have bC:=zq3 cd g m1 A1 φ1 g2 q2 hw;cases q2 with
    |error k=>simp only at h bC;cases h;rw[bC]
    |ok A2=>simp only at h bC;obtain⟨m2,φ2,k1,k2⟩:=bC;rw[k1];exact zwu k2 h
def Ma.up (e:Nat) (A:Ma):Ma:={ A with fuel:=A.fuel+e }
def E7 (e:Nat) (a a':Option (Except Nat Ma)):Prop:=∀q,a=some q ->
 match q with
 |.error j=>j=4\/j=5\/a'=some (.error j)
 |.ok B=>a'=some (.ok (B.up e))
theorem E7.none{e:Nat}{a':Option (Except Nat Ma)}:E7 e none a':=λ_ h=>by cases h
variable {e:Nat}
theorem E7.err{j:Nat}:E7 e (some (.error j)) (some (.error j)):=λq h=>by cases h;exact .inr (.inr rfl)
variable {a':Option (Except Nat Ma)}
theorem E7.Zw :E7 e (some (.error 4)) a':=λq h=>by cases h;exact .inl rfl
theorem E7.Wb :E7 e (some (.error 5)) a':=λq h=>by cases h;exact .inr (.inl rfl)
theorem E7.ok{B:Ma}:E7 e (NC B) (NC (B.up e)):=λq h=>by cases h;rfl
variable {hf dr e:Nat} {sl:List Nat}{A:Ma}
theorem RX(hh:hf<=dr){f f':Ma->Option (Except Nat Ma)}(h:E7 e (f A) (f' (A.up e))):E7 e (ask hf k A f) (ask dr k (A.up e) f'):=by
 unfold ask;by_cases h1:Fits hf A k
 .have h2:Fits dr (A.up e) k:=λC c1 c2=>yM (h1 C c1 c2) hh
  rw[nB h1,nB h2];exact h
 .rw[pL h1];exact E7.Zw
theorem WS(hh:hf<=dr)(v:Int):E7 e (A.N5 hf v) ((A.up e).N5 dr v):=RX hh E7.ok
theorem Zb(hh:hf<=dr)(nd:List Nat->Nd)(c:Nat):E7 e (A.SU hf nd c) ((A.up e).SU dr nd c):=by
 refine RX hh ?_;show E7 e (match O0 A.st c with|none=>none|some fs=>NC _) (match O0 A.st c with|none=>none|some fs=>NC _);cases O0 A.st c with
 |none=>exact E7.none
 |some fs=>exact E7.ok
theorem zvX(hh:hf<=dr)(t c:Nat):E7 e (A.Ty hf t c) ((A.up e).Ty dr t c):=by
 unfold Ma.Ty;split
 .exact Zb hh _ _
 .exact E7.none
theorem zvW(hh:hf<=dr)(t c:Nat):E7 e (A.UW hf t c) ((A.up e).UW dr t c):=by
 unfold Ma.UW;split
 .exact Zb hh _ _
 .exact E7.none
theorem zxo(hh:hf<=dr)(b c:Nat):E7 e (A.hold hf b c) ((A.up e).hold dr b c):=by
 unfold Ma.hold;split
 .exact RX hh E7.ok
 .exact E7.none
theorem YS(hh:hf<=dr){w:Ma->Option Wd}(hw:w (A.up e)=w A):E7 e (A.Rk hf w) ((A.up e).Rk dr w):=by
 refine RX hh ?_;rw[hw];cases w A with
 |none=>exact E7.none
 |some x=>exact E7.ok
theorem zxm(k c:Nat):E7 e (A.fill k c) ((A.up e).fill k c):=by
 unfold Ma.fill;rw[show(A.up e).slot k=A.slot k from rfl,show(A.up e).h=A.h from rfl,show(A.up e).st=A.st from rfl];split
 .split
  .split
   .split
    .exact E7.none
    .exact E7.ok
   .exact E7.none
  .exact E7.none
 .exact E7.none
theorem zwi(c:Nat):E7 e ((A.NG c).map .ok) (((A.up e).NG c).map .ok):=by
 unfold Ma.NG;rw[show(A.up e).below=A.below from rfl,show(A.up e).st=A.st from rfl];split
 .exact E7.ok
 .exact E7.none
theorem zxc(hh:hf<=dr)(sg:ByteArray)(l r:Int):E7 e (A.calc hf sg l r) ((A.up e).calc dr sg l r):=by
 unfold Ma.calc;split
 .exact WS hh _
 .split
  .exact WS hh _
  .split
   .exact WS hh _
   .split
    .split
     .exact E7.err
     .exact WS hh _
    .split
     .exact Zb hh _ _
     .split
      .exact Zb hh _ _
      .exact E7.none
theorem zrk(hh:hf<=dr)(sg:ByteArray):E7 e (A.compute hf sg) ((A.up e).compute dr sg):=by
 unfold Ma.compute;rw[show(A.up e).OY 0=A.OY 0 from rfl,show(A.up e).OY 1=A.OY 1 from rfl];split
 .exact E7.none
 .exact E7.err
 .split
  .exact E7.none
  .exact E7.err
  .exact zxc hh (A:={ A with st:=Ml A.st 2 }) sg _ _
theorem zva(hh:hf<=dr)(a b:Nat)(fs:List Nat):E7 e (A.Qn hf a b fs) ((A.up e).Qn dr a b fs):=RX hh E7.ok
theorem zs3(hh:hf<=dr)(b c:Nat)(fs:List Nat):E7 e (A.extend hf b c fs) ((A.up e).extend dr b c fs):=by
 refine RX hh ?_;split
 .show E7 e (match O0 (Ml A.st 2) c with|none=>none|some fs=>NC _) (match O0 (Ml A.st 2) c with|none=>none|some fs=>NC _);cases O0 (Ml A.st 2) c with
  |none=>exact E7.none
  |some fs=>exact E7.ok
 .exact E7.none
theorem zxf(hh:hf<=dr)(b lk lf:Nat)(fs:List Nat):E7 e (A.call hf b lk lf fs) ((A.up e).call dr b lk lf fs):=by
 refine RX hh ?_;rw[show(A.up e).st=A.st from rfl];split
 .exact E7.ok
 .exact E7.none
def VY (e:Nat) (a a':Option (Except Nat (Bool × Ma))):Prop:=∀q,a=some q ->
 match q with
 |.error j=>j=4\/j=5\/a'=some (.error j)
 |.ok B=>a'=some (.ok (B.1,B.2.up e))
theorem VY.of{b:Bool}{a:Option (Except Nat Ma)}:E7 e a a'->VY e (match a with|none=>none|some (.error k)=>some (.error k)|some (.ok A')=>some (.ok (b,A'))) (match a' with|none=>none|some (.error k)=>some (.error k)|some (.ok A')=>some (.ok (b,A'))):=by
 intro h q hq;cases a with
 |none=>simp at hq
 |some x=>
  have hx:=h x rfl;cases x with
  |error j=>
   simp at hq;subst hq;rcases hx with hx|hx|hx
   .exact .inl hx
   .exact .inr (.inl hx)
   .exact .inr (.inr (by rw[hx]))
  |ok B=>simp at hq;subst hq;have ij:a'=some (.ok (B.up e)):=hx;simp only;rw[ij]
theorem zrb(hh:hf<=dr)(c:Nat):VY e (A.NX hf sl c) ((A.up e).NX dr sl c):=by
 unfold Ma.NX;rw[show(A.up e).h=A.h from rfl,show(A.up e).st=A.st from rfl];split
 .split
  .intro q hq;cases hq;exact .inr (.inr rfl)
  .intro q hq;cases hq;exact .inr (.inr rfl)
  .split
   .intro q hq;cases hq
   .split
    .intro q hq;cases hq
    .split
     .exact VY.of (zs3 hh _ _ _)
     .split
      .intro q hq;cases hq
      .exact VY.of (zxf hh _ _ _ _)
  .intro q hq;cases hq
 .intro q hq;cases hq
theorem Xc(hh:hf<=dr):∀(g:Nat){A:Ma},E7 e (A.MZ hf sl g) ((A.up e).MZ dr sl g)
 |0,A=>by rw[Ma.MZ];exact E7.none
 |g+1,A=>by
  rw[Ma.MZ,Ma.MZ];rw[show(A.up e).h=A.h from rfl,show(A.up e).st=A.st from rfl];split
  .exact E7.ok
  .split
   .split
    .exact E7.none
    .split
     .split
      .split
       .split
        .split
         .exact Xc hh g (A:={ A with h:=A.h.set _ (.fwd _),st:=Ml A.st 3++[.ad _] })
         .exact Xc hh g (A:={ A with h:=A.h.set _ (.fwd _),st:=Ml A.st 3++[.ad _] })
         .split
          .exact Xc hh g (A:={ A with h:=A.h.set _ (.fwd _),st:=Ml A.st 3++[.ad _] })
          .exact E7.none
         .exact E7.none
        .exact E7.none
       .exact E7.none
      .exact E7.none
     .split
      .split
       .exact E7.ok
       .exact E7.none
      .split
       .next b _ _ _ _ _=>
        have ha:=zrb (e:=e) (sl:=sl) hh (A:=A) b;cases hq:A.NX hf sl b with
        |none=>exact E7.none
        |some x=>
         have hx:=ha x hq;cases x with
         |error j=>
          intro q lx;cases lx;rcases hx with hx|hx|hx
          .exact .inl hx
          .exact .inr (.inl hx)
          .exact .inr (.inr (by rw[hx]))
         |ok B=>
          have ij:(A.up e).NX dr sl b=some (.ok (B.1,B.2.up e)):=hx;rw[ij];simp only;split
          .exact E7.ok
          .exact Xc hh g
       .exact E7.none
   .exact E7.none
theorem zqp(hh:hf<=dr):E7 e (A.enter hf sl) ((A.up e).enter dr sl):=by
 unfold Ma.enter;rw[show(A.up e).h=A.h from rfl,show(A.up e).st=A.st from rfl];split
 .next a _=>
  simp only;have hg:E7 e (Ma.MZ hf sl (A.st.length+1) { A with st:=Ml A.st 1++[.ad (can A.h a)] }) (Ma.MZ dr sl (A.st.length+1) { (A.up e)with st:=Ml A.st 1++[.ad (can A.h a)] }):=Xc hh _ (A:={ A with st:=Ml A.st 1++[.ad (can A.h a)] });split
  .exact E7.Wb
  .exact hg
  .exact hg
  .split
   .exact E7.none
   .split
    .exact zva hh (A:={ A with st:=Ml A.st 1++[.ad (can A.h a)] }) _ _ _
    .split
     .exact hg
     .exact E7.none
  .exact E7.none
 .exact E7.none
theorem znx(hh:hf<=dr){A:Ma}{t:Nat}{fs:List Nat}:∀(l:List (Nat × Nat × Nat)),E7 e (A.OX hf t fs l) ((A.up e).OX dr t fs l)
 |[]=>by rw[Ma.OX,Ma.OX];exact E7.err
 |(u,c,b)::l=>by
  rw[Ma.OX,Ma.OX];split
  .split
   .exact RX hh E7.ok
   .exact E7.err
  .exact znx hh l
theorem zsN(hh:hf<=dr)(nA:List (Nat × Nat × Nat)):E7 e (A.choose hf nA) ((A.up e).choose dr nA):=by
 unfold Ma.choose;rw[show(A.up e).h=A.h from rfl,show(A.up e).st=A.st from rfl];split
 .split
  .exact znx hh _
  .exact E7.err
  .exact E7.err
  .exact E7.none
 .exact E7.none
theorem zxU(hh:hf<=dr)(i:Ds):E7 e (A.step hf sl i) ((A.up e).step dr sl i):=by
 cases i with
 |push k=>exact YS hh rfl
 |PM f=>exact YS hh rfl
 |num x=>exact WS hh _
 |pack t c=>exact zvX hh _ _
 |close b c=>exact zvW hh _ _
 |hold b c=>exact zxo hh _ _
 |fill k c=>exact zxm _ _
 |wait b=>
  simp only[Ma.step];split
  .exact YS hh rfl
  .exact E7.none
 |N6 c=>
  simp only[Ma.step];split
  .exact YS hh rfl
  .exact E7.none
 |NG c=>exact zwi _
 |PJ=>
  simp only[Ma.step];rw[show(A.up e).OY 0=A.OY 0 from rfl];cases A.OY 0 with
  |none=>exact E7.none
  |some q=>
   cases q with
   |error j=>exact E7.err
   |ok v=>exact E7.ok
 |comp sg=>exact zrk hh _
 |enter=>exact zqp hh
 |jump b=>exact E7.ok
 |choose nA=>exact zsN hh _
theorem zoc(hh:hf<=dr):∀(l:List Ds){A:Ma},E7 e (Ma.Nb hf sl l A) (Ma.Nb dr sl l (A.up e))
 |[],A=>by rw[Ma.Nb,Ma.Nb];exact E7.ok
 |i::l,A=>by
  rw[Ma.Nb,Ma.Nb];by_cases h0:A.fuel=0
  .rw[nB h0];exact E7.Wb
  .have h1:¬(A.up e).fuel=0:=by show¬A.fuel+e=0;omega
   rw[pL h0,pL h1];have hs:=zxU (e:=e) (sl:=sl) hh (A:={ A with fuel:=A.fuel-1 }) i;have hA:Ma.up e { A with fuel:=A.fuel-1 }={ A.up e with fuel:=(A.up e).fuel-1 }:=by unfold Ma.up;simp only[Ma.mk.injEq,true_and,and_true];omega
   rw[hA]at hs;cases hq:Ma.step hf sl { A with fuel:=A.fuel-1 } i with
   |none=>exact E7.none
   |some x=>
    have hx:=hs x hq;cases x with
    |error j=>
     intro q lx;cases lx;rcases hx with hx|hx|hx
     .exact .inl hx
     .exact .inr (.inl hx)
     .exact .inr (.inr (by rw[hx]))
    |ok B=>have ij:Ma.step dr sl { A.up e with fuel:=(A.up e).fuel-1 } i=some (.ok (B.up e)):=hx;rw[ij];exact zoc hh l
theorem zuR(hh:hf<=dr){cd:List (Nat × List Ds)}:∀(g:Nat){A:Ma},E7 e (Ma.work hf cd g A) (Ma.work dr cd g (A.up e))
 |0,A=>by rw[Ma.work];exact E7.none
 |g+1,A=>by
  rw[Ma.work,Ma.work];rw[show(A.up e).next=A.next from rfl,show(A.up e).st=A.st from rfl];split
  .exact E7.ok
  .split
   .exact E7.none
   .split
    .exact E7.none
    .next n is _=>
     have hs:E7 e (Ma.Nb hf (cd.map Prod.fst) is { A with below:=(A.st.length:Int)-n }) (Ma.Nb dr (cd.map Prod.fst) is ⟨(A.up e).h,A.st,(A.up e).fns,(A.up e).fuel,A.next,(A.st.length:Int)-n⟩):=zoc (e:=e) (sl:=cd.map Prod.fst) hh is (A:={ A with below:=(A.st.length:Int)-n });cases hq:Ma.Nb hf (cd.map Prod.fst) is { A with below:=(A.st.length:Int)-n }with
     |none=>exact E7.none
     |some x=>
      have hx:=hs x hq;cases x with
      |error j=>
       intro q lx;cases lx;rcases hx with hx|hx|hx
       .exact .inl hx
       .exact .inr (.inl hx)
       .exact .inr (.inr (by rw[hx]))
      |ok B=>have ij:Ma.Nb dr (cd.map Prod.fst) is ⟨(A.up e).h,A.st,(A.up e).fns,(A.up e).fuel,A.next,(A.st.length:Int)-n⟩=some (.ok (B.up e)):=hx;rw[ij];exact zuR hh g
theorem znX(hh:hf<=dr):∀(m i:Nat){A:Ma},E7 e (A.NF hf i m) ((A.up e).NF dr i m)
 |0,i,A=>by rw[Ma.NF,Ma.NF];exact E7.ok
 |m+1,i,A=>by
  rw[Ma.NF,Ma.NF];split
  .refine RX hh ?_;exact znX hh m (i+1) (A:={ A with h:=A.h++[.Jb i []],fns:=A.fns++[A.h.length] })
  .exact E7.none
theorem zwm(hh:hf<=dr)(nf main:Nat):E7 e (A.start hf sl nf main) ((A.up e).start dr sl nf main):=by
 unfold Ma.start;have hs:=znX (e:=e) hh nf 0 (A:=A);cases hq:A.NF hf 0 nf with
 |none=>exact E7.none
 |some x=>
  have hx:=hs x hq;cases x with
  |error j=>
   intro q lx;cases lx;rcases hx with hx|hx|hx
   .exact .inl hx
   .exact .inr (.inl hx)
   .exact .inr (.inr (by rw[hx]))
  |ok B=>
   have ij:(A.up e).NF dr 0 nf=some (.ok (B.up e)):=hx;rw[ij];refine RX hh ?_;rw[show(B.up e).fns=B.fns from rfl];cases B.fns[main]? with
   |none=>exact E7.none
   |some a=>exact zqp hh (A:={ B with st:=B.st++[.ad a] })
theorem zpM(hh:hf<=dr){fuel dP g:Nat}(pW:fuel<=dP)(h:TF hf cd nf main fuel g=some r)(h4:r≠(4,0,0,0))(h5:r≠(5,0,0,0)):TF dr cd nf main dP g=some r:=by
 obtain⟨e,rfl⟩:∃e,dP=fuel+e:=⟨dP - fuel,by omega⟩;have hs:=zwm (e:=e) (sl:=cd.map Prod.fst) hh (A:=Ma.new fuel) nf main;rw[show Ma.up e (Ma.new fuel)=Ma.new (fuel+e)from rfl]at hs;unfold TF at h|-;cases hq:(Ma.new fuel).start hf (cd.map Prod.fst) nf main with
 |none=>rw[hq]at h;cases h
 |some x=>
  have hx:=hs x hq;rw[hq]at h;cases x with
  |error j=>
   simp only[IA]at h;subst h;rcases hx with hx|hx|hx
   .subst hx;exact absurd rfl h4
   .subst hx;exact absurd rfl h5
   .rw[hx]
  |ok B=>
   have ij:(Ma.new (fuel+e)).start dr (cd.map Prod.fst) nf main=some (.ok (B.up e)):=hx;rw[ij];simp only at h|-;have hw:=zuR (e:=e) (cd:=cd) hh g (A:=B);cases bC:Ma.work hf cd g B with
   |none=>rw[bC]at h;cases h
   |some y=>
    have hy:=hw y bC;rw[bC]at h;cases y with
    |error j=>
     simp only[IA]at h;subst h;rcases hy with hy|hy|hy
     .subst hy;exact absurd rfl h4
     .subst hy;exact absurd rfl h5
     .rw[hy]
    |ok C=>have Fx:Ma.work dr cd g (B.up e)=some (.ok (C.up e)):=hy;rw[Fx];exact h
end Ab
end
end Go.Proofs.YtgahgkddaljmkaaGreatDoor
