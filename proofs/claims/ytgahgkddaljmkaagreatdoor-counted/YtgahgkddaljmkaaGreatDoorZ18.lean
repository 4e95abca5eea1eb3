/- Sf5 .. Mon1 -/
import Derived.Test.YtgahgkddaljmkaaGreatDoorZ17
set_option maxRecDepth 100000
set_option maxHeartbeats 4000000
namespace Go.Proofs.YtgahgkddaljmkaaGreatDoor
open Tryz
namespace Ab
abbrev zsp:=Int × Int × Int × Int
def Sure (f:Nat->Option zsp) (r:zsp):Prop:=∃ c,∀ g,f (g+c)=some r
end Ab
namespace Sf
open Cp (Nm)
open Ab
variable {X:Cx} {h h':List Nd} {A A':Ma} {F ws:List Wd} {S:List Wd} {B:List Nat}{v:Nat}
theorem zjv{d:Nat}(hd:d<A.st.length)(hs:A.st[A.st.length-1-d]?=some (.ad v))(hv:Vd X.sl A.h v):A.zdW d=some (.error 3)\/∃ x,A.zdW d=some (.ok x):=by
 obtain ⟨nd,n1,n2⟩:=hv;unfold Ma.zdW;rw[if_pos hd,hs];simp only;rw[n1];cases nd with
 |num x=>exact .inr ⟨x,rfl⟩
 |data t fs=>exact .inl rfl
 |clo b fs=>exact .inl rfl
 |busy=>exact n2.elim
 |fwd a=>exact n2.elim
variable {hf:Nat}
theorem zvc{sg:List UInt8}(mU:sg∈Th.six)(l r:Int)(hG:Good X.sys A):Ok (A.calc hf ⟨⟨sg⟩⟩ l r) fun A'=>A'.fuel=A.fuel/\∃ w,Ad A'.h w/\Nx X A A' [w]:=by
 have own:∀ {A':Ma} {nd:Nd},A'={ A with h:=A.h++[nd],st:=A.st++[.ad A.h.length] }->Good X.sys A'->A'.fuel=A.fuel/\∃ w,Ad A'.h w/\Nx X A A' [w]:=fun {A' nd} e hg=>⟨by rw[e],.ad A.h.length,⟨_,rfl,by rw[e];simp⟩,by rw[e],by rw[e],hg,by rw[e];exact G.app nd,by rw[e];exact zyN _⟩
 have hp:∀ v,Ok (A.zau hf v) fun A'=>A'.fuel=A.fuel/\∃ w,Ad A'.h w/\Nx X A A' [w]:=fun v=>zgM (.done (own rfl ⟨hG.1.app trivial,hG.2.1,zyR hG.2.2 (by simp)⟩))
 have ht:∀ b,Ok (A.zww hf b) fun A'=>A'.fuel=A.fuel/\∃ w,Ad A'.h w/\Nx X A A' [w]:=fun b=>(zmv (X:=X) (nd:=fun _=>.data (if b then 2 else 1) []) (ws:=[]) (st:=A.st) hG (by simp) rfl (by simp) (fun fs _ _ f hf=>by simp at hf)).mono fun A' ⟨fs,_,e2,e3⟩=>own e2 e3
 simp only[Th.six,zzo,zzZ,or_false]at mU;unfold Ma.calc;rcases mU with rfl|rfl|rfl|rfl|rfl|rfl
 ·rw[if_pos rfl];exact hp _
 ·rw[if_neg (by decide),if_pos rfl];exact hp _
 ·rw[if_neg (by decide),if_neg (by decide),if_pos rfl];exact hp _
 ·rw[if_neg (by decide),if_neg (by decide),if_neg (by decide),if_pos rfl];split
  ·exact .inl ⟨3,rfl⟩
  ·exact hp _
 ·rw[if_neg (by decide),if_neg (by decide),if_neg (by decide),if_neg (by decide),if_pos rfl];exact ht _
 ·rw[if_neg (by decide),if_neg (by decide),if_neg (by decide),if_neg (by decide),if_neg (by decide),if_pos rfl];exact ht _
theorem zlf{hf t v:Nat}{fs:List Nat}{F0:List Wd}(hG:Good X.sys A)(hs:A.st=S++(F0++[.ad v]))(hK:K X.sys A.h S B)(hB:BZ A.h B)(hw:∀ w∈F0,Ad A.h w)(jX:∀ f∈fs,f<A.h.length):∀ (zao:List (Nat × Nat × Nat)),(∀ o∈zao,CB X o.2.2 (F0.length+o.2.1))->Ok (A.zcc hf t fs zao) fun A'=>Cf X.sys A'/\A'.fuel=A.fuel
 |[],_=>.inl ⟨3,rfl⟩
 |(u,c,b)::l,ha=>by
  rw[Ma.zcc];split
  ·split
   ·next hc=>
    refine zgM (.done ⟨⟨hG,S,B,F0++(fs.map Wd.ad).reverse,?_,hK,hB,.inl ⟨b,rfl,(X.sys.cb _ _ (ha (u,c,b) (by simp))).2.2 _ _ (by simp[hc]) fun w hm=>?_⟩⟩,rfl⟩)
    ·simp only;rw[show zcE A.st 1=S++F0 by rw[hs,<-zzk];exact zef (S++F0) [.ad v],zzk]
    ·rcases zzi.1 hm with hm|hm
     ·exact hw w hm
     ·exact zte jX w hm
   ·exact .inl ⟨3,rfl⟩
  ·exact zlf hG hs hK hB hw jX l fun o ho=>ha o (by simp[ho])
variable {b:Nat}
theorem block(hX:X.cd.length<=1000000)(hG:Good X.sys A)(hs:A.st=S++F)(hb:A.below=S.length)(hK:K X.sys A.h S B)(hB:BZ A.h B)(hR:RB X A.h F b):∃ is,X.cd[b]?=some (F.length,is)/\Ok (X.ri is A) fun A'=>Cf X.sys A'/\A'.fuel<A.fuel:=by
 obtain ⟨is,c,hR⟩:=hR;refine ⟨is,c,?_⟩;rcases hR with ⟨hc,hl,hw⟩|⟨F0,v,m,r,q,b2,sg,ns,rfl,hv,hw,hq,q1,q2,q3,rfl,c2,mU⟩|⟨l,r,sg,rfl,hl,hr,rfl,mU⟩|⟨F0,v,zao,rfl,hv,hw,rfl,ha⟩
 ·rcases hc with ⟨m,e,q,hq,q1,q2,rfl⟩|⟨t,ht,rfl⟩
  ·obtain ⟨is,e1,r1⟩:=zq1 hX m hq;rw[e1,q1,zzb];exact r1 (base:=S) (F0:=F) (κ:=[]) rfl ⟨by simp[hs],hb,hG,by simpa using FO.all q2.symm hw⟩ (by simpa using hK) hB
  ·refine zb3 (a:=[_]) (b:=[.enter]) (ri1 fun h0=>?_);simp only[Ma.step,Ma.zn5];rw[if_pos ⟨by omega,hl⟩];refine (zmv (X:=X) (nd:=.data t) (A:={ A with fuel:=A.fuel-1 }) (ws:=F) (st:=S) hG hs rfl hw (fun fs _ h0 f hf=>zyS (h0 f hf) (by simp))).mono fun A1 ⟨fs,_,e2,e3⟩=>?_
   refine (zsW (S:=S) (B:=B) (w:=.ad A.h.length) (by rw[e2]) ⟨_,rfl,by rw[e2];simp⟩ (by rw[e2];exact hK.up (G.app _).gv) (by rw[e2];exact (G.app _).bz hB) e3).mono fun A2 ⟨k,f⟩=>⟨k,?_⟩
   rw[e2]at f;simp only at f;omega
 ·obtain ⟨is,e1,r1⟩:=zq1 hX m hq;have hl:A.st.length=S.length+F0.length+1:=by rw[hs];simp;omega
  have aw:=(zyL.1 c2).1;rw[e1,q1,show [Ins.zbX,.push F0.length,.wait b2]++is=[.zbX]++([.push F0.length]++([.wait b2]++is)) by simp];refine zb3 (ri1 fun h0=>?_);simp only[Ma.step];have hn:=zjv (X:=X) (A:={ A with fuel:=A.fuel-1 }) (d:=0) (v:=v) (by simp only;omega) (by simp only;rw[hl,hs,<-zzk,zy3 (by simp)];simp) hv;rcases hn with hn|⟨x,hn⟩
  ·rw[hn];exact .inl ⟨3,rfl⟩
  ·rw[hn];have r0:Ru X { A with fuel:=A.fuel-1 } (ns++[[]]) S (F0++[.ad v]):=⟨hs,hb,hG,(FO.all q2.symm hw).app (FO.none (ws:=[.ad v]) _ (k:=1) rfl)⟩;refine .done (zb3 (ri1 fun _=>?_));simp only[Ma.step];refine (zrO (X:=X) (A:={ A with fuel:=A.fuel-1 }) (w:=.ad v) hG (r0.slot (i:=F0.length) (by simp))).mono fun A1 ⟨x1,x2⟩=>zb3 (ri1 fun _=>?_)
   simp only[Ma.step];rw[if_pos (by omega)];refine (zrO (X:=X) (w:=.mk 1 b2) x2.zct rfl).mono fun A2 ⟨y1,y2⟩=>?_
   have nx:=x2.trans y2;have hf:=nx.fuel;have aG:K X.sys A2.h (S++([.ad v]++[.mk 1 b2])) B:=.wait (hK.up nx.g.gv) (by omega) (fun h' v' g dZ=>⟨_,c2,.inr (.inr (.inl ⟨v,v',sg,rfl,g.2 v ((nx.g.gv (Y:=X.sys)).2 v hv),dZ,rfl,mU⟩))⟩);refine (r1 (base:=S) (F0:=F0++[.ad v]) (κ:=[.ad v,.mk 1 b2]) rfl ?_ aG (nx.g.bz hB)).mono fun A3 ⟨k,f⟩=>⟨k,by simp only at hf;omega⟩
   have:=r0.next nx (FO.none (ws:=[.ad v,.mk 1 b2]) _ (k:=2) rfl);rw[q3];simpa using this
 ·have xI:A.st.length=S.length+2:=by rw[hs];simp
  refine zb3 (a:=[_]) (b:=[.enter]) (ri1 fun h0=>?_);simp only[Ma.step,Ma.compute];have lq:=zjv (X:=X) (A:={ A with fuel:=A.fuel-1 }) (d:=0) (v:=r) (by simp only;omega) (by simp only;rw[xI,hs,zy3 (by omega),show S.length+2-1-0-S.length=1 by omega];rfl) hr;have cR:=zjv (X:=X) (A:={ A with fuel:=A.fuel-1 }) (d:=1) (v:=l) (by simp only;omega) (by simp only;rw[xI,hs,zy3 (by omega),show S.length+2-1-1-S.length=0 by omega];rfl) hl;rcases lq with hn|⟨x,hn⟩
  ·rw[hn];exact .inl ⟨3,rfl⟩
  ·rw[hn];simp only;rcases cR with cR|⟨y,cR⟩
   ·rw[cR];exact .inl ⟨3,rfl⟩
   ·rw[cR];simp only;rw[show zcE A.st 2=S by rw[hs];exact zef S [.ad l,.ad r]];refine (zvc (X:=X) (A:={ A with fuel:=A.fuel-1,st:=S }) mU y x hG).mono fun A1 ⟨e0,w,w1,w2⟩=>?_
    refine (zsW (S:=S) (B:=B) w2.st w1 (hK.up w2.g.gv) (w2.g.bz hB) w2.zct).mono fun A2 ⟨k,f⟩=>⟨k,?_⟩
    rw[e0]at f;simp only at f;omega
 ·refine ri1 fun h0=>?_
  simp only[Ma.step,Ma.choose];rw[show A.st.getLast?=some (.ad v) by rw[hs];simp];simp only;obtain ⟨nd,n1,n2⟩:=hv;have mR:=hG.1 v nd n1;rw[n1];cases nd with
  |num x=>exact .inl ⟨3,rfl⟩
  |clo b fs=>exact .inl ⟨3,rfl⟩
  |busy=>exact n2.elim
  |fwd a=>exact n2.elim
  |data t fs=>exact (zlf (X:=X) (A:={ A with fuel:=A.fuel-1 }) hG hs hK hB hw mR zao ha).mono fun A2 ⟨k,f⟩=>⟨k,by rw[f];simp only;omega⟩
theorem zo1(hX:X.cd.length<=1000000):∀ (g:Nat) {A:Ma},Cf X.sys A->A.fuel<g->∃ r,(∀ k,Ma.work X.hf X.cd (g+k) A=some r)/\∀ A',r=.ok A'->∃ o,A'.told=some o
 |0,_,_,hg=>by omega
 |g+1,A,⟨hG,S,B,F,hs,hK,hB,hn⟩,hg=>by
  rcases hn with ⟨b,hn,hR⟩|⟨hn,v,rfl,nd,n1,n2⟩
  ·obtain ⟨is,c,hb⟩:=block hX (A:={ A with below:=(A.st.length:Int)-F.length }) (S:=S) (B:=B) hG hs (by simp only;rw[hs];simp) hK hB hR;have hw:∀ k r,X.ri is { A with below:=(A.st.length:Int)-F.length }=some r->Ma.work X.hf X.cd (g+1+k) A=(match r with|.error j=>some (.error j)|.ok A2=>Ma.work X.hf X.cd (g+k) A2):=fun k r hr=>by
    rw[show g+1+k=g+k+1 by omega,Ma.work,if_neg (by omega),if_neg (by omega),show A.next.toNat=b by rw[hn];rfl,c];simp only;rw[show Ma.zbb X.hf X.sl is { A with below:=(A.st.length:Int)-F.length }=some r from hr];cases r <;> rfl
   rcases hb with ⟨j,e⟩|⟨A2,e,hc,hf⟩
   ·exact ⟨.error j,fun k=>hw k _ e,fun _ e=>by cases e⟩
   ·obtain ⟨r,r1,r2⟩:=zo1 hX g hc (by simp only at hf;omega);exact ⟨r,fun k=>(hw k _ e).trans (r1 k),r2⟩
  ·refine ⟨.ok A,fun k=>by rw[show g+1+k=g+k+1 by omega,Ma.work,if_pos hn];rfl,fun A' e=>?_⟩;cases e;unfold Ma.told;rw[show A.st.getLast?=some (.ad v) by rw[hs];simp];simp only;rw[n1];cases nd with
   |num x=>exact ⟨_,rfl⟩
   |data t fs=>exact ⟨_,rfl⟩
   |clo b fs=>exact ⟨_,rfl⟩
   |busy=>exact n2.elim
   |fwd a=>exact n2.elim
theorem zqE(hN:X.N=1300):∀ (l:List Th.zbr) (i:Nat) (bl:List (Nat × List Ins)),i+l.length=X.fns.length->X.fns.length<=bl.length->Cp.lines X.fr X.fns X.N i l bl=X.cd ->
  (∀ f∈l,Cp.Dp X.N f.e/\Cp.wt X.N f.e+f.params.length<=1300/\Kn X (X.fr f.e) (Th.texts f.params).reverse) ->
  (∀ (j:Nat) (b:Nat × List Ins),(j<i\/i+l.length<=j)->bl[j]?=some b->X.cd[j]?=some b)/\(∀ j,j<l.length->∃ k,CB X (i+j) k)/\X.cd.length<=bl.length+8*(l.map fun f=>Cp.wt X.N f.e).sum
 |[],i,bl,_,_,h,_=>by
  rw[Cp.lines]at h;rw[h];exact ⟨fun _ _ _ hb=>hb,by simp,by simp⟩
 |f::l,i,bl,hi,hb,h,hf=>by
  obtain ⟨f1,f2,f3⟩:=hf f (by simp);rw[zy8]at hi;rw[Cp.lines]at h;obtain ⟨sl,aK⟩:∃ sl:List Nm,sl=(Th.texts f.params).reverse:=⟨_,rfl⟩;have s8:sl.length=f.params.length:=by rw[aK];simp[Th.texts]
  rw[<-aK]at h f3;obtain ⟨⟨⟨more,e1,g1⟩,_⟩,_⟩:=Cp.zbC (M:=1300) X.N X.fns (by omega) X.N f.e 0 ⟨bl,sl,[]⟩ f1 f1 (by omega);have aX:=(Cp.zaK 1300 X.N X.fns X.N f.e 0 ⟨bl,sl,[]⟩ f1 (by omega)).2.2;obtain ⟨q,hq⟩:∃ q,q=X.wk X.N f.e 0 ⟨bl,sl,[]⟩:=⟨_,rfl⟩;rw[show Cp.work X.fr X.fns X.N f.e 0 ⟨bl,sl,[]⟩=q from hq.symm]at h e1 aX;simp only at e1 aX;have p7:bl.length<=q.blocks.length:=by rw[e1];simp
  obtain ⟨r1,r2,r3⟩:=zqE hN l (i+1) (q.blocks.set i (sl.length,q.code)) (by omega) (by rw[zy6];omega) h (fun x hx=>hf x (by simp[hx]));have pg:znn X q.blocks:=fun j b hj pR=>r1 j b (by omega) (by rw[zyV,if_neg (by omega)];exact pR)
  refine ⟨fun j b hj pR=>r1 j b (by rw[zy8]at hj;omega) ?_,fun j hj=>?_,?_⟩
  ·rw[zyV,if_neg (by rw[zy8]at hj;omega),e1,zzc (zyL.1 pR).1];exact pR
  ·cases j with
   |zero=>exact ⟨sl.length,by omega,q.code,r1 i _ (by omega) (by rw[zyV,if_pos rfl,if_pos (by omega)]),.inl ⟨X.N,f.e,⟨bl,sl,[]⟩,⟨f1,zyN _,by omega,hb,by rw[<-hq];exact pg,f3⟩,rfl,rfl,by rw[hq]⟩⟩
   |succ j=>
    have:=r2 j (by simpa using hj)
    rwa [show i+(j+1)=i+1+j by omega]
  ·rw[zy6]at r3;rw[zza,zzd];omega
theorem zto{hf:Nat}(hX:X.fns.length<=1000000):∀ (m i:Nat) {A:Ma},i+m=X.fns.length->(∀ j,j<X.fns.length->∃ k,CB X j k)->HT X.sys A.h->A.h.length=i->A.fns=List.range i->A.st=[]->Ok (A.zbm hf i m) fun A'=>Good X.sys A'/\A'.st=[]/\A'.h.length=X.fns.length/\A'.fuel=A.fuel
 |0,i,A,hi,_,ht,hl,hn,hs=>.done ⟨⟨ht,by rw[hn];show _=List.range X.fns.length;rw[<-hi];rfl,by show X.fns.length<=_;omega⟩,hs,by omega,rfl⟩
 |m+1,i,A,hi,hc,ht,hl,hn,hs=>by
  obtain ⟨k,hk⟩:=hc i (by omega);rw[Ma.zbm];split
  ·refine zgM (zto hX m (i+1) (A:={ A with h:=A.h++[.clo i []],fns:=A.fns++[A.h.length] }) (by omega) hc (ht.app ⟨by simp,k,by simp,hk⟩) (by simp[hl]) ?_ hs);simp only;rw[hn,hl,List.range_succ]
  ·next h0=>exact absurd (by omega) h0
theorem zjK{l:List Th.zbr}(ho:Th.zyf 1300 l)(hf fuel:Nat):∃ r,Sure (zwX hf (Cp.program 1300 l) l.length ((Th.zaq l).idxOf Th.zcO) fuel) r:=by
 obtain ⟨X,hX⟩:∃ X:Cx,X=⟨hf,Cp.program 1300 l,Th.zaq l,1300⟩:=⟨_,rfl⟩;have DZ:X.cd=Cp.program 1300 l:=by rw[hX]
 have xf:X.fns=Th.zaq l:=by rw[hX]
 have uD:X.N=1300:=by rw[hX]
 have D0:X.hf=hf:=by rw[hX]
 have bZ:X.fns.length=l.length:=by rw[xf];simp[Th.zaq]
 have s9:∀ (l:List Th.zbr),l.length+(l.map fun f=>Cp.wt 1300 f.e).sum<=(l.map fun f=>Cp.wt 1300 f.e+f.params.length+1).sum:=by
  intro l
  induction l with
  |nil=>simp
  |cons x l ih=>rw[zza,zzd,zza,zzd,zy8];omega
 have dh:=zyR (s9 l) ho.sum;obtain ⟨_,c2,c3⟩:=zqE uD l 0 (List.replicate l.length (0,[])) (by omega) (by simp;omega) (by rw[hX];rfl) (fun f hm=>by
  have:=ho.each hm;rw[uD];refine ⟨ho.dp f hm,by omega,fun x hx=>?_⟩;obtain ⟨x1,x2⟩:=ho.nm f hm x (by have ij:x∈Cp.free X.N f.e:=hx;rw[uD]at ij;exact ij);exact ⟨x1,x2.imp (fun k=>by simpa using k) (fun k=>by rw[xf];exact k)⟩)
 rw[uD]at c3;simp only[zzz]at c3;have rV:X.cd.length<=1000000:=by omega
 have cL:(Th.zaq l).idxOf Th.zcO<X.fns.length:=by rw[xf];exact zzF ho.main
 rw[<-DZ,<-D0,<-bZ];unfold zwX;have dH:=zto (X:=X) (hf:=X.hf) (by omega) X.fns.length 0 (A:=Ma.new fuel) (by omega) (fun j hj=>by have:=c2 j (by omega);rwa [zzG]at this) (fun a nd e=>by simp[Ma.new]at e) rfl rfl rfl;have dY:Ok ((Ma.new fuel).start X.hf (X.cd.map Prod.fst) X.fns.length ((Th.zaq l).idxOf Th.zcO)) fun A'=>Cf X.sys A':=by
  unfold Ma.start;rcases dH with ⟨j,e⟩|⟨A1,e,hg,hs,hl,_⟩
  ·rw[e];exact .inl ⟨j,rfl⟩
  ·rw[e];simp only;refine zgM ?_;rw[show A1.fns[(Th.zaq l).idxOf Th.zcO]?=some ((Th.zaq l).idxOf Th.zcO) by rw[hg.2.1];exact List.getElem?_range cL];simp only;exact (enter (Y:=X.sys) (S:=[]) (B:=[]) (A:={ A1 with st:=A1.st++[.ad ((Th.zaq l).idxOf Th.zcO)] }) (by rw[hs]) (by simp only;omega) .nil ⟨by simp,by simp⟩ hg).mono fun A' k=>k.1
 rcases dY with ⟨j,e⟩|⟨A1,e,hc⟩
 ·exact ⟨((j:Int),0,0,0),0,fun g=>by rw[e]⟩
 ·obtain ⟨r,r1,r2⟩:=zo1 rV (A1.fuel+1) hc (by omega);cases r with
  |error j=>exact ⟨((j:Int),0,0,0),A1.fuel+1,fun g=>by rw[e,Nat.add_comm];simp only;rw[r1]⟩
  |ok A2=>
   obtain ⟨o,ho⟩:=r2 A2 rfl;exact ⟨o,A1.fuel+1,fun g=>by rw[e,Nat.add_comm];simp only;rw[r1];exact ho⟩
end Sf
end Go.Proofs.YtgahgkddaljmkaaGreatDoor
namespace Go.Proofs.YtgahgkddaljmkaaGreatDoor
open Tryz
namespace Ab
variable {sl:List Nat} {hf:Nat} {m:MSt} {A:Ma} {φ:Nat->Option Nat}
abbrev VI (sl:List Nat) (h:List Nd):Prop:=∀ (a b:Nat),h[a]?=some (.fwd b)->∃ nd,h[b]?=some nd/\val sl nd
variable {h:List Nd}{nd:Nd}
theorem zoT(hv:VI sl h)(hf:zaV nd=false):VI sl (h++[nd]):=by
 intro a b hb;rw[zzj]at hb;split at hb
 ·obtain ⟨n,h1,h2⟩:=hv a b hb;exact ⟨n,by rw[zzc (zyL.1 h1).1];exact h1,h2⟩
 ·next nO=>
  have:=(zyL.1 hb).1;simp at this;have h1:a-h.length=0:=by omega
  rw[h1]at hb;simp at hb;rw[hb]at hf;simp[zaV]at hf
theorem zb2(M:MR sl hf m A φ)(v:Int):zaS sl hf (m.zau v) (A.zau hf v):=by
 refine zcS M (fun m' φ' M' hr _=>?_);obtain ⟨n1,n2⟩:=zmy M'.rel (nd:=.num v) (xs:=[v]) trivial rfl (by simp[sz];omega) (by simp[sz]) (fun w hw=>by cases hw;rfl) (fun i f hf=>by simp[zdd]at hf);obtain ⟨p1,p2⟩:=zc5 n2 (x:=m'.s.free) (w:=.ad A.h.length) (by simp[sz];omega) ⟨m'.s.free,rfl,.inl (by simp[grow])⟩;have hd:hdr (.num v)=0:=rfl;rw[hd]at n1 p1;unfold MSt.put;rw[n1];simp only[zzD];rw[p1];exact zaS.ok ⟨p2,M'.half,M'.fuel,M'.next,M'.below,zoT M'.vi rfl⟩
variable {c:Nat}
theorem zi6(M:MR sl hf m A φ){nd:List Nat->Nd}{hd:Int}(hh:∀ fs,fs.length=c->hdr (nd fs)=hd/\zo6 (nd fs)/\zaV (nd fs)=false/\sz (nd fs)=c+1/\(∀ v,nd fs≠.num v)/\∀ (i f:Nat),(zdd (nd fs))[i]?=some f->fs[i]?=some f):zaS sl hf (m.build hd c) (A.mkN hf nd c):=by
 refine zcS M (fun m' φ' M' hr _=>?_);cases ht:zlT A.st c with
 |none=>exact zaS.none _ _ _
 |some fs=>
  obtain ⟨t1,t2,t3⟩:=ziX ht;obtain ⟨e1,e2,e3,e4,e5,e6⟩:=hh fs t2;obtain ⟨w1,w2⟩:=M'.rel.zlT ht;have fg:=M'.rel.tp;have gS:=M'.rel.hi;obtain ⟨n1,n2⟩:=zmy M'.rel (nd:=nd fs) (xs:=m'.s.words m'.s.top c) e2 e3 (by omega) (by rw[w1,e4]) (fun v hv=>absurd hv (e5 v)) (fun i f hf'=>by
   obtain ⟨x,x1,x2⟩:=w2 i f (e6 i f hf');exact ⟨x,x1,x2.mono (M'.rel.grown _) zhE⟩)
  obtain ⟨q1,q2⟩:=zhQ n2 (c:=c) t1;obtain ⟨p1,p2⟩:=zc5 q2 (x:=m'.s.free) (w:=.ad A.h.length) (by simp only;omega) ⟨m'.s.free,rfl,.inl (by simp[grow])⟩;rw[e1]at n1;simp only;rw[if_pos ⟨by omega,by omega⟩];unfold MSt.put;rw[n1];simp only[zzD];rw[e1]at q1 p1;rw[q1];simp only[zzD];rw[p1];rw[e1]at p2;exact zaS.ok ⟨p2,M'.half,M'.fuel,M'.next,M'.below,zoT M'.vi e3⟩
theorem ztM(M:MR sl hf m A φ)(t c:Nat):zaS sl hf (m.pack 1 t c) (A.zn5 hf t c):=by
 unfold MSt.pack Ma.zn5;split
 ·next hc=>exact zi6 M (fun fs hl=>⟨by simp[hdr,hl],⟨hc.1,by omega⟩,rfl,by simp[sz,hl];omega,by simp,fun i f hf=>hf⟩)
 ·exact zaS.none _ _ _
theorem ztL(M:MR sl hf m A φ)(t c:Nat):zaS sl hf (m.pack 2 t c) (A.zpH hf t c):=by
 unfold MSt.pack Ma.zpH;split
 ·next hc=>exact zi6 M (fun fs hl=>⟨by simp[hdr,hl],⟨hc.1,by omega⟩,rfl,by simp[sz,hl];omega,by simp,fun i f hf=>hf⟩)
 ·exact zaS.none _ _ _
theorem zoP(M:MR sl hf m A φ)(b:Bool):zaS sl hf (m.zcN b) (A.zww hf b):=by
 refine zi6 M (fun fs hl=>⟨?_,?_,rfl,by simp[sz],by simp,fun i f hf=>by simp[zdd]at hf⟩)
 ·cases b <;> rfl
 ·cases b <;> exact ⟨by decide,by decide⟩
theorem zqu{x:Int}:∀ (c:Nat) (s:Sto),s.free+c<=s.ws.length->∃ ws',s.fill x c=some { s with ws:=ws',free:=s.free+c }/\ws'.length=s.ws.length/\∀ j,ws'[j]?=if s.free<=j/\j<s.free+c then some x else s.ws[j]?
 |0,s,_=>⟨s.ws,rfl,rfl,fun j=>by rw[if_neg (by omega)]⟩
 |c+1,s,h=>by
  obtain ⟨ws',h1,h2,h3⟩:=zqu c { s with ws:=s.ws.set s.free x,free:=s.free+1 } (by simp only[zy6];omega);refine ⟨ws',?_,by rw[h2];simp,fun j=>?_⟩
  ·rw[Sto.fill,if_pos (by omega),h1];simp only;congr 2;omega
  ·rw[h3];simp only;rw[zyV];by_cases e:s.free=j
   ·rw[if_neg (by omega),if_pos e,if_pos (by omega),if_pos (by omega)]
   ·rw[if_neg e];by_cases h4:s.free+1<=j/\j<s.free+1+c
    ·rw[if_pos h4,if_pos (by omega)]
    ·rw[if_neg h4,if_neg (by omega)]
theorem zvD(M:MR sl hf m A φ)(b c:Nat):zaS sl hf (m.hold b c) (A.hold hf b c):=by
 unfold MSt.hold Ma.hold;split
 ·next hc=>
  refine zcS M (fun m' φ' M' hr _=>?_);have fg:=M'.rel.tp;have gS:=M'.rel.hi;have bg:m'.s.node (Hd 2 b c) []=some { m'.s with free:=m'.s.free+1,ws:=m'.s.ws.set m'.s.free (Hd 2 b c) }:=by
   unfold Sto.node;rw[if_pos (by simp;omega)];simp[Go.splice]
  obtain ⟨ws',f1,f2,f3⟩:=zqu (x:=(m'.s.free:Int)) c { m'.s with free:=m'.s.free+1,ws:=m'.s.ws.set m'.s.free (Hd 2 b c) } (by simp only[zy6];omega);simp only[zy6]at f2;have aY:∀ j,ws'[j]?=if j=m'.s.free then some (Hd 2 b c) else if m'.s.free<j/\j<m'.s.free+1+c then some (m'.s.free:Int) else m'.s.ws[j]?:=by
   intro j;rw[f3];simp only;rw[zyV];by_cases e:m'.s.free=j
   ·rw[if_neg (by omega),if_pos e,if_pos (by omega),if_pos e.symm]
   ·have e':¬ j=m'.s.free:=fun x=>e x.symm
    rw[if_neg e,if_neg e'];by_cases h4:m'.s.free+1<=j/\j<m'.s.free+1+c
    ·rw[if_pos h4,if_pos (by omega)]
    ·rw[if_neg h4,if_neg (by omega)]
  have cT:sz (.clo b (List.replicate c A.h.length))=1+c:=by simp[sz]
  have kV:∀ (i f:Nat),(zdd (.clo b (List.replicate c A.h.length)))[i]?=some f->∃ x,ws'[m'.s.free+1+i]?=some x/\Rf (grow φ' A.h.length m'.s.free) (A.h++[.clo b (List.replicate c A.h.length)]) x f:=by
   intro i f hf;simp only[zdd]at hf;have br:=(zyL.1 hf).1;simp at br;have uI:=zzQ (zy1 hf);exact ⟨m'.s.free,by rw[aY,if_neg (by omega),if_pos (by omega)],⟨m'.s.free,rfl,.inl (by rw[uI];simp[grow])⟩⟩
  have R2:=M'.rel.alloc (ws':=ws') (nd:=.clo b (List.replicate c A.h.length)) ⟨hc.1,by simp;omega⟩ rfl (by rw[cT];omega) f2 (fun j hj=>by rw[cT]at hj;rw[aY,if_neg (by omega),if_neg (by omega)]) ⟨(by rw[aY,if_pos rfl];simp[hdr]),(fun v hv=>(by cases hv)),kV⟩;rw[cT]at R2;obtain ⟨p1,p2⟩:=zc5 R2 (x:=m'.s.free) (w:=.ad A.h.length) (by simp only;omega) ⟨m'.s.free,rfl,.inl (by simp[grow])⟩;unfold MSt.put;rw[bg];simp only[zzD];rw[f1];simp only[zzD];have he:m'.s.free+1+c=m'.s.free+(1+c):=by omega
  rw[he,p1];exact zaS.ok ⟨p2,M'.half,M'.fuel,M'.next,M'.below,zoT M'.vi rfl⟩
 ·exact zaS.none _ _ _
variable {k:Nat}{w:Wd}
theorem zqU(M:MR sl hf m A φ)(hs:A.slot k=some w):∃ i x,m.slot k=some i/\m.s.ws[i]?=some x/\RW φ A.h x w/\m.s.top<=i/\i<m.s.low+m.s.half:=by
 unfold Ma.slot at hs;split at hs
 ·next h0=>
  have br:=(zyL.1 hs).1;obtain ⟨x,x1,x2⟩:=M.rel.stk _ w hs;have fg:=M.rel.tp;have hb:=M.below;refine ⟨m.s.low+m.s.half-1-(A.below.toNat+k),x,?_,x1,x2,by omega,by omega⟩;unfold MSt.slot;rw[hb,if_pos ⟨h0,by omega⟩];congr 1;omega
 ·cases hs
theorem zoa(M:MR sl hf m A φ)(k:Nat):zaS sl hf (m.ziT k) (A.zjF hf fun A=>A.slot k):=by
 refine zcS M (fun m' φ' M' hr ho=>?_);cases hs:A.slot k with
 |none=>simp only[hs];exact zaS.none _ _ _
 |some w=>
  obtain ⟨i,x,s1,s2,s3,_⟩:=zqU M' hs;obtain ⟨p1,p2⟩:=zc5 M'.rel hr s3;simp only[hs,s1,s2];unfold MSt.put;rw[p1];exact zaS.ok ⟨p2,M'.half,M'.fuel,M'.next,M'.below,M'.vi⟩
theorem zrP(M:MR sl hf m A φ)(f:Nat):zaS sl hf (m.zcW f) (A.zjF hf fun A=>(A.fns[f]?).map Wd.ad):=by
 refine zcS M (fun m' φ' M' hr ho=>?_);cases hs:A.fns[f]? with
 |none=>simp only[hs,Option.map_none];exact zaS.none _ _ _
 |some a=>
  obtain ⟨x,x1,x2⟩:=M'.rel.fn f a hs;obtain ⟨p1,p2⟩:=zc5 M'.rel hr (w:=.ad a) x2;simp only[hs,x1,zzP];unfold MSt.put;rw[p1];exact zaS.ok ⟨p2,M'.half,M'.fuel,M'.next,M'.below,M'.vi⟩
theorem zij(M:MR sl hf m A φ)(k b:Nat):zaS sl hf (m.zcH k b) (if b<=1000000000 then A.zjF hf fun _=>some (.mk k b) else none):=by
 unfold MSt.zcH;split
 ·refine zcS M (fun m' φ' M' hr ho=>?_);obtain ⟨p1,p2⟩:=zc5 M'.rel (x:=Mk k b) (w:=.mk k b) hr rfl;simp only;unfold MSt.put;rw[p1];exact zaS.ok ⟨p2,M'.half,M'.fuel,M'.next,M'.below,M'.vi⟩
 ·exact zaS.none _ _ _
theorem zut(M:MR sl hf m A φ)(c:Nat):zaS sl hf ((m.zci c).map .ok) ((A.zci c).map .ok):=by
 unfold Ma.zci;split
 ·next hc=>
  have fg:=M.rel.tp;have gS:=M.rel.hi;have iY:=M.rel.ft;have hb:=M.below;have aN:(m.s.words m.s.top c).length=c:=by unfold Sto.words;rw[zzf,zzu];omega
  unfold MSt.zci;rw[hb,if_pos ⟨hc.1,by omega,gS,by omega⟩];simp only[zzP];refine zaS.ok (φ:=φ) ⟨?_,M.half,M.fuel,M.next,M.below,M.vi⟩;refine M.rel.zeV (top':=m.s.low+m.s.half-A.below.toNat-c) (zzM _ _ _ (by rw[aN];omega)) (fun j h1 h2=>by rw[zbu _ _ _ _ (by rw[aN];omega),if_pos (by omega)]) (by omega) (by simp;omega) (fun i w hw=>?_);rw[zbu _ _ _ _ (by rw[aN];omega),aN];rw[zzj,zzf,zzV (by omega)]at hw;split at hw
  ·next br=>
   rw[zzy,if_pos br]at hw;obtain ⟨y,y1,y2⟩:=M.rel.stk i w hw;exact ⟨y,by rw[if_neg (by omega),if_neg (by omega)];exact y1,y2⟩
  ·next br=>
   rw[zzx]at hw;have aj:=(zyL.1 hw).1;obtain ⟨y,y1,y2⟩:=M.rel.stk _ w hw;refine ⟨y,?_,y2⟩;rw[if_neg (by omega),if_pos (by omega)];unfold Sto.words;rw[zzy,if_pos (by omega),zzx];rw[<-y1];congr 1;omega
 ·exact zaS.none _ _ _
theorem zjw(M:MR sl hf m A φ){d:Nat}{r:Except Nat Int}(h:A.zdW d=some r):m.numberAt d=some r:=by
 unfold Ma.zdW at h;split at h
 ·next hd=>
  obtain ⟨w,x,w1,w2,w3⟩:=M.rel.word hd;rw[w1]at h;cases w with
  |mk k b=>simp at h
  |ad a=>
   simp only at h;have key:∀ nd,A.h[a]?=some nd->zaV nd=false->∃ p:Nat,x=p/\m.s.ws[p]?=some (hdr nd)/\0<=hdr nd/\hdr nd<9223372036854775808/\∀ v,nd=.num v->m.s.ws[p+1]?=some v:=fun nd hn hf=>by
    obtain ⟨p,p1,p2,p3,p4,p5⟩:=M.rel.zfo w3 hn hf;obtain ⟨r1,r2⟩:=zde (M.rel.ok a nd hn);exact ⟨p,p1,p5.1,r1,r2,p5.2.1⟩
   unfold MSt.numberAt;rw[w2];simp only;cases hn:A.h[a]? with
   |none=>rw[hn]at h;simp at h
   |some nd=>
    rw[hn]at h;cases nd with
    |num v=>
     cases h;obtain ⟨p,rfl,p2,p3,p4,p5⟩:=key _ hn rfl;rw[if_neg (by omega),zy2,p2];simp only;rw[if_neg (by omega),if_pos (by simp[hdr]),p5 v rfl]
    |data t fs=>
     cases h;obtain ⟨p,rfl,p2,p3,p4,p5⟩:=key _ hn rfl;rw[if_neg (by omega),zy2,p2];simp only;rw[if_neg (by omega),if_neg (by simp only[hdr];rw[zbx (by omega)];omega)]
    |clo t fs=>
     cases h;obtain ⟨p,rfl,p2,p3,p4,p5⟩:=key _ hn rfl;rw[if_neg (by omega),zy2,p2];simp only;rw[if_neg (by omega),if_neg (by simp only[hdr];rw[zbx (by omega)];omega)]
    |busy=>simp at h
    |fwd b=>simp at h
 ·cases h
theorem zpD(M:MR sl hf m A φ):zaS sl hf ((m.numberAt 0).map fun q=>q.map fun _=>m) ((A.zdW 0).map fun q=>q.map fun _=>A):=by
 cases h:A.zdW 0 with
 |none=>exact zaS.none _ _ _
 |some r=>
  rw[zjw M h];cases r with
  |error k=>exact zaS.error _ _ _
  |ok v=>exact zaS.ok M
theorem zvd(M:MR sl hf m A φ)(sg:ByteArray)(l r:Int):zaS sl hf (m.calc sg l r) (A.calc hf sg l r):=by
 unfold MSt.calc Ma.calc;split
 ·exact zb2 M _
 ·split
  ·exact zb2 M _
  ·split
   ·exact zb2 M _
   ·split
    ·split
     ·exact zaS.error _ _ _
     ·exact zb2 M _
    ·split
     ·exact zoP M _
     ·split
      ·exact zoP M _
      ·exact zaS.none _ _ _
theorem zpo(M:MR sl hf m A φ)(sg:ByteArray):zaS sl hf (m.compute sg) (A.compute hf sg):=by
 unfold MSt.compute Ma.compute;cases h0:A.zdW 0 with
 |none=>exact zaS.none _ _ _
 |some r0=>
  rw[zjw M h0];cases r0 with
  |error k=>exact zaS.error _ _ _
  |ok r=>
   simp only;cases h1:A.zdW 1 with
   |none=>exact zaS.none _ _ _
   |some r1=>
    rw[zjw M h1];cases r1 with
    |error k=>exact zaS.error _ _ _
    |ok l=>
     simp only;have hl:2<=A.st.length:=by
      unfold Ma.zdW at h1;split at h1
      ·omega
      ·cases h1
     obtain ⟨q1,q2⟩:=zhQ M.rel hl;rw[q1];exact zvd (m:={ m with s:={ m.s with top:=m.s.top+2 } }) (A:={ A with st:=zcE A.st 2 }) ⟨q2,M.half,M.fuel,M.next,M.below,M.vi⟩ sg l r
variable {sl:List Nat} {hf:Nat} {m:MSt} {A:Ma} {φ:Nat->Option Nat}{s:Sto}{fc:List Int}{st:List Wd}{fns:List Nat}{a:Nat}
theorem Rel.zi2(R:Rel s fc h st fns φ){p:Nat}(hp:φ a=some p)(hn:h[a]?=some nd)(hf:zaV nd=false):s.low<=p/\p+sz nd<=s.free/\AtC s.ws (Rf φ h) p nd:=by
 obtain ⟨q,e,h1,h2,h3,h4⟩:=R.zfo (x:=p) ⟨p,rfl,.inl hp⟩ hn hf;have:q=p:=by omega
 subst this;exact ⟨h2,h3,h4⟩
theorem zgn(h:st.getLast?=some w):0<st.length/\st[st.length-1]?=some w:=by
 rw[List.getLast?_eq_getElem?]at h;exact ⟨by have:=(zyL.1 h).1;omega,h⟩
theorem Rel.zdB(R:Rel s fc h st fns φ)(ht:st.getLast?=some (.ad a))(hn:h[a]?=some nd)(hf:zaV nd=false):∃ p,φ a=some p/\s.nodeAt 0=some (p,hdr nd)/\s.ws[s.top]?=some (p:Int)/\s.low<=p/\p+sz nd<=s.free/\AtC s.ws (Rf φ h) p nd:=by
 obtain ⟨h0,h1⟩:=zgn ht;obtain ⟨w,x,w1,w2,w3⟩:=R.word (d:=0) h0;rw[zAl,h1]at w1;cases w1;obtain ⟨p,rfl,p2,p3,p4,p5⟩:=R.zfo w3 hn hf;rw[zzO]at w2;refine ⟨p,p2,?_,w2,p3,p4,p5⟩;unfold Sto.nodeAt;rw[zzO,w2];simp only;rw[if_neg (by omega),zy2,p5.head (R.ok a nd hn) rfl];rfl
theorem zi9(h:zo6 nd)(hf:zaV nd=false):cnt (hdr nd)=(zdd nd).length:=by
 unfold cnt;exact ztf h hf
theorem zqC{nd':Nd}(hn:h[a]?=some nd)(hf:zaV nd=false):∀ (c b:Nat),h[c]?=some (.fwd b)->(h.set a nd')[c]?=some (.fwd b):=by
 intro c b hb;rw[zyV,if_neg (fun e=>by subst e;rw[hn]at hb;cases hb;simp[zaV]at hf)];exact hb
theorem zw3{nd':Nd}(hv:VI sl h)(hn:h[a]?=some nd)(_hf:zaV nd=false)(h1:zaV nd'=false)(h2:val sl nd->val sl nd'):VI sl (h.set a nd'):=by
 have aU:=(zyL.1 hn).1;intro c b hb;rw[zyV]at hb;by_cases e0:a=c
 ·rw[if_pos e0,if_pos aU]at hb;cases hb;simp[zaV]at h1
 ·rw[if_neg e0]at hb;obtain ⟨n,g1,g2⟩:=hv c b hb;by_cases e:a=b
  ·subst e;rw[hn]at g1;cases g1;exact ⟨nd',by rw[zyV,if_pos rfl,if_pos aU],h2 g2⟩
  ·exact ⟨n,by rw[zyV,if_neg e];exact g1,g2⟩
theorem zvw(M:MR sl hf m A φ)(k c:Nat):zaS sl hf (m.zln k c) (A.fill k c):=by
 unfold Ma.fill;cases hs:A.slot k with
 |none=>exact zaS.none _ _ _
 |some w=>
  cases w with
  |mk _ _=>exact zaS.none _ _ _
  |ad a=>
   simp only;cases hn:A.h[a]? with
   |none=>exact zaS.none _ _ _
   |some nd=>
    cases nd with
    |clo b fs=>
     simp only;split
     ·next bZ=>
      cases ht:zlT A.st c with
      |none=>exact zaS.none _ _ _
      |some gs=>
       obtain ⟨i,x,s1,s2,s3,s4,s5⟩:=zqU M hs;obtain ⟨p,rfl,p2,p3,p4,p5⟩:=M.rel.zfo s3 hn rfl;obtain ⟨t1,t2,t3⟩:=ziX ht;obtain ⟨w1,w2⟩:=M.rel.zlT ht;have bU:=M.rel.ok a _ hn;have fg:=M.rel.tp;have gS:=M.rel.hi;have iY:=M.rel.ft;have cT:sz (.clo b fs)=1+c:=by simp[sz,bZ]
       rw[cT]at p4;have iG:cnt (hdr (.clo b fs))=c:=by rw[zi9 bU rfl];exact bZ
       unfold MSt.zln;rw[s1];simp only;rw[s2];simp only;rw[if_neg (by omega),zy2,p5.head bU rfl];simp only;rw[if_pos ⟨iG,by omega,by omega,by omega⟩];have aY:∀ j,(Go.splice m.s.ws (p+1) (m.s.words m.s.top c))[j]?=if j<p+1 then m.s.ws[j]? else if j<p+1+c then (m.s.words m.s.top c)[j-(p+1)]? else m.s.ws[j]?:=fun j=>by
        rw[zbu _ _ _ _ (by rw[w1];omega),w1]
       have R2:=M.rel.zxM (ws':=Go.splice m.s.ws (p+1) (m.s.words m.s.top c)) (nd':=.clo b gs) p2 hn rfl ⟨bU.1,by rw[t2];exact bZ ▸ bU.2⟩ (by simp[sz,bZ,t2]) (zzM _ _ _ (by rw[w1];omega))
        (fun j hj=>by rw[cT]at hj;rw[aY];by_cases h1:j<p+1;rw[if_pos h1];rw[if_neg h1,if_neg (by omega)])
        (.inr ⟨rfl,by rw[aY,if_pos (by omega),p5.1];simp[hdr,bZ,t2],fun v hv=>(by cases hv),fun i f hf'=>by
         obtain ⟨y,y1,y2⟩:=w2 i f hf';have:=(zyL.1 y1).1;exact ⟨y,by rw[aY,if_neg (by omega),if_pos (by omega),show p+1+i-(p+1)=i by omega];exact y1,y2.mono (fun _ _ z=>z) (zqC hn rfl)⟩⟩)
        (fun e=>by simp[zaV]at e) (fun b' e=>by cases e)
       obtain ⟨q1,q2⟩:=zhQ R2 t1;unfold MSt.put;rw[q1];refine zaS.ok ⟨q2,M.half,M.fuel,M.next,M.below,zw3 M.vi hn rfl rfl (fun hv=>?_)⟩;obtain ⟨n,n1,n2⟩:=hv;exact ⟨n,n1,by rw[t2];rw[bZ]at n2;exact n2⟩
     ·exact zaS.none _ _ _
    |_=>exact zaS.none _ _ _
variable {b n:Nat}{fs:List Nat}
theorem zsF(M:MR sl hf m A φ)(ht:A.st.getLast?=some (.ad a))(hn:A.h[a]?=some (.clo b fs))(hb:sl[b]?=some n)(hl:n=fs.length):zaS sl hf m.zdy (A.zdy hf a b fs):=by
 have bU:=M.rel.ok a _ hn;obtain ⟨p,p1,p2,p3,p4,p5,p6⟩:=M.rel.zdB ht hn rfl;unfold MSt.zdy;rw[p2];simp only;have hc:cnt (hdr (.clo b fs))=fs.length:=zi9 bU rfl;rw[hc];refine zcS M (fun m1 φ1 M1 hr ho=>?_);obtain ⟨q,q1,q2,q3,q4,q5,q6⟩:=M1.rel.zdB ht hn rfl;obtain ⟨u1,u2⟩:=zc5 M1.rel (x:=Mk 0 0) (w:=.mk 0 0) (by omega) rfl;obtain ⟨s2,e2⟩:∃ s2:Sto,s2={ m1.s with top:=m1.s.top-1,ws:=m1.s.ws.set (m1.s.top-1) (Mk 0 0) }:=⟨_,rfl⟩;rw[<-e2]at u1 u2;have g2:s2.free=m1.s.free/\s2.top=m1.s.top-1:=by rw[e2];exact ⟨rfl,rfl⟩
 obtain ⟨a1,a2,a3⟩:=u2.zi2 q1 hn rfl;have cT:sz (.clo b fs)=1+fs.length:=rfl;have ss:=u2.hi;have se:=u2.ft;have tu:=u2.tp;obtain ⟨f1,f2⟩:=a3.fields (by simp only[zdd];omega);simp only[zdd]at f1 f2;obtain ⟨v1,v2⟩:=zgq u2 (fs:=fs) f1 (by rw[f1];omega) f2;obtain ⟨s3,e3⟩:∃ s3:Sto,s3={ s2 with top:=s2.top-(s2.words (q+1) fs.length).length,ws:=Go.splice s2.ws (s2.top-(s2.words (q+1) fs.length).length) (s2.words (q+1) fs.length) }:=⟨_,rfl⟩;rw[<-e3]at v1 v2;have h3:s3.half=m1.s.half:=by rw[e3,e2]
 obtain ⟨b1,b2,b3⟩:=v2.zi2 q1 hn rfl;have p7:=(zyL.1 b3.1).1;have R4:=v2.zxM (ws':=s3.ws.set q (Hd 3 0 0)) (nd':=.busy) q1 hn rfl trivial (by simp[sz]) (by simp) (fun j hj=>by rw[zyV,if_neg (by omega)])
  (.inr ⟨rfl,(by rw[zyV,if_pos rfl,if_pos p7];rfl),fun v hv=>(by cases hv),fun i f hf'=>(by simp[zdd]at hf')⟩) (fun e=>by simp[zaV]at e) (fun b' e=>by cases e)
 unfold MSt.begun;rw[q2];simp only;rw[u1];simp only;rw[a3.head bU rfl];simp only;rw[hc,if_neg (by omega),v1];simp only;rw[b3.head bU rfl];simp only[zzP];refine zaS.ok (φ:=φ1) ⟨R4,h3.trans M1.half,M1.fuel,?_,M1.below,zw3 M1.vi hn rfl rfl (fun hv=>?_)⟩
 ·simp only[hdr];exact zdE (by omega) bU.2
 ·obtain ⟨n',n1,n2⟩:=hv;rw[hb]at n1;cases n1;omega
theorem zrg(M:MR sl hf m A φ)(zao:List (Nat × Nat × Nat)):zaS sl hf (m.choose zao) (A.choose hf zao):=by
 unfold Ma.choose;cases ht:A.st.getLast? with
 |none=>exact zaS.none _ _ _
 |some w=>
  cases w with
  |mk _ _=>exact zaS.none _ _ _
  |ad a=>
   simp only;cases hn:A.h[a]? with
   |none=>exact zaS.none _ _ _
   |some nd=>
    cases nd with
    |num v=>
     obtain ⟨p,p1,p2,_⟩:=M.rel.zdB ht hn rfl;unfold MSt.choose;rw[p2];simp only;rw[if_neg (by simp[hdr])];exact zaS.error _ _ _
    |clo b fs=>
     obtain ⟨p,p1,p2,_⟩:=M.rel.zdB ht hn rfl;unfold MSt.choose;rw[p2];simp only;rw[if_neg (by simp only[hdr];rw[zbx (by omega)];omega)];exact zaS.error _ _ _
    |data t fs=>
     obtain ⟨p,p1,p2,_⟩:=M.rel.zdB ht hn rfl;have bU:=M.rel.ok a _ hn;have hk:hdr (.data t fs)%16=1:=by simp only[hdr];exact zbx (by omega)
     have hw:hdr (.data t fs)/65536=(t:Int):=by simp only[hdr];exact zdE (by omega) bU.2
     have hc:cnt (hdr (.data t fs))=fs.length:=zi9 bU rfl;unfold MSt.choose;rw[p2];simp only;rw[if_pos hk];clear p1
     induction zao with
     |nil=>exact zaS.error _ _ _
     |cons arm l ih=>
      obtain ⟨u,c,b⟩:=arm;rw[MSt.zcc,Ma.zcc,hw];by_cases hu:u=t
      ·rw[if_pos (by omega),if_pos hu];unfold MSt.split;rw[p2];simp only;rw[hc];by_cases uH:c=fs.length
       ·rw[if_pos uH,if_pos uH];refine zcS M (fun m1 φ1 M1 hr ho=>?_);obtain ⟨q,q1,q2,q3,q4,q5,q6⟩:=M1.rel.zdB ht hn rfl;obtain ⟨g0,_⟩:=zgn ht;obtain ⟨u1,u2⟩:=zhQ M1.rel (c:=1) (by omega);obtain ⟨a1,a2,a3⟩:=u2.zi2 q1 hn rfl;have cT:sz (.data t fs)=1+fs.length:=rfl;have ss:=u2.hi;have se:=u2.ft;have tu:=u2.tp;simp only at a2 ss se tu;obtain ⟨f1,f2⟩:=a3.fields (s:={ m1.s with top:=m1.s.top+1 }) (by simp only[zdd];omega);obtain ⟨v1,v2⟩:=zgq u2 (fs:=fs) f1 (by rw[f1];simp only[zdd];omega) f2;unfold MSt.zqM;rw[q2];simp only;rw[u1];simp only;rw[hc,if_neg (by omega)];simp only[zdd]at v1;rw[v1];simp only[zzP];exact zaS.ok (φ:=φ1) ⟨v2,M1.half,M1.fuel,rfl,M1.below,M1.vi⟩
       ·rw[if_neg uH,if_neg uH];exact zaS.error _ _ _
      ·rw[if_neg (by omega),if_neg hu];exact ih
    |_=>exact zaS.none _ _ _
variable {sl:List Nat} {hf:Nat} {m:MSt} {A:Ma} {φ:Nat->Option Nat}
theorem zmd{i:Nat}(h:(zcE st c)[i]?=some w):st[i]?=some w:=by
 unfold zcE at h;rw[zzy]at h;split at h
 ·exact h
 ·cases h
theorem zdF(st:List Wd)(c:Nat):(zcE st c).length=st.length-c:=by unfold zcE;rw[zzf];omega
theorem zrs(M:MR sl hf m A φ)(ht:A.st.getLast?=some (.ad a))(hn:A.h[a]?=some (.clo b fs))(_hb:sl[b]?=some n):zaS sl hf (m.extend c) (A.extend hf b c fs):=by
 have bU:=M.rel.ok a _ hn;obtain ⟨p,p1,p2,p3,p4,p5,p6⟩:=M.rel.zdB ht hn rfl;have hc:cnt (hdr (.clo b fs))=fs.length:=zi9 bU rfl;unfold MSt.extend;rw[p2];simp only;rw[hc];refine zcS M (fun m1 φ1 M1 hr ho=>?_);split
 ·next hg=>
  cases fg:zlT (zcE A.st 2) c with
  |none=>exact zaS.none _ _ _
  |some gs=>
   obtain ⟨t1,t2,t3⟩:=ziX fg;rw[zdF]at t1;obtain ⟨q,q1,q2,q3,q4,q5,q6⟩:=M1.rel.zdB ht hn rfl;have cT:sz (.clo b fs)=1+fs.length:=rfl;have gS:=M1.rel.hi;have iY:=M1.rel.ft;have yd:=M1.rel.tp;obtain ⟨f1,f2⟩:=q6.fields (by simp only[zdd];omega);simp only[zdd]at f1 f2;have hw:hdr (.clo b fs)/65536=(b:Int):=by simp only[hdr];exact zdE (by omega) bU.2
   have bg:m1.s.node (Hd 2 b (fs.length+c)) (m1.s.words (q+1) fs.length)=some { m1.s with free:=m1.s.free+1+fs.length,ws:=Go.splice (m1.s.ws.set m1.s.free (Hd 2 b (fs.length+c))) (m1.s.free+1) (m1.s.words (q+1) fs.length) }:=by
    unfold Sto.node;rw[f1,if_pos (by omega)]
   obtain ⟨s2,e2⟩:∃ s2:Sto,s2={ m1.s with free:=m1.s.free+1+fs.length,ws:=Go.splice (m1.s.ws.set m1.s.free (Hd 2 b (fs.length+c))) (m1.s.free+1) (m1.s.words (q+1) fs.length) }:=⟨_,rfl⟩;rw[<-e2]at bg;have rq:s2.free=m1.s.free+1+fs.length:=by rw[e2]
   have DJ:s2.top=m1.s.top:=by rw[e2]
   have zB:s2.ws.length=m1.s.ws.length:=by rw[e2];simp only;rw[zzM _ _ _ (by rw[zy6,f1];omega),zy6]
   have gI:∀ j,s2.ws[j]?=if j=m1.s.free then some (Hd 2 b (fs.length+c)) else if m1.s.free<j/\j<m1.s.free+1+fs.length then (m1.s.words (q+1) fs.length)[j-(m1.s.free+1)]? else m1.s.ws[j]?:=by
    intro j;rw[e2];simp only;rw[zbu _ _ _ _ (by rw[zy6,f1];omega),f1];by_cases h1:j=m1.s.free
    ·rw[if_pos (by omega),if_pos h1,h1,zyV,if_pos rfl,if_pos (by omega)]
    ·have cS:(m1.s.ws.set m1.s.free (Hd 2 b (fs.length+c)))[j]?=m1.s.ws[j]?:=by rw[zyV,if_neg (fun e=>h1 e.symm)]
     rw[if_neg h1];by_cases h2:j<m1.s.free+1
     ·rw[if_pos h2,if_neg (by omega),cS]
     ·rw[if_neg h2];by_cases h3:j<m1.s.free+1+fs.length
      ·rw[if_pos h3,if_pos (by omega)]
      ·rw[if_neg h3,if_neg (by omega),cS]
   have eE:(s2.words (s2.top+2) c).length=c:=by unfold Sto.words;rw[zzf,zzu];omega
   have Fs:∀ i,i<c->(s2.words (s2.top+2) c)[i]?=m1.s.ws[m1.s.top+(2+i)]?:=fun i hi=>by
    unfold Sto.words;rw[zzy,if_pos hi,zzx,DJ,gI,if_neg (by omega),if_neg (by omega),show m1.s.top+2+i=m1.s.top+(2+i) by omega]
   obtain ⟨pC,e3⟩:∃ pC,pC=Go.splice s2.ws s2.free (s2.words (s2.top+2) c):=⟨_,rfl⟩;have DK:pC.length=m1.s.ws.length:=by rw[e3,zzM _ _ _ (by rw[eE];omega),zB]
   have jG:∀ j,pC[j]?=if j<s2.free then s2.ws[j]? else if j<s2.free+c then (s2.words (s2.top+2) c)[j-s2.free]? else s2.ws[j]?:=fun j=>by rw[e3,zbu _ _ _ _ (by rw[eE];omega),eE]
   have ph:sz (.clo b (fs++gs))=1+fs.length+c:=by simp[sz,t2];omega
   have kV:∀ (i f:Nat),(zdd (.clo b (fs++gs)))[i]?=some f->∃ x,pC[m1.s.free+1+i]?=some x/\Rf (grow φ1 A.h.length m1.s.free) (A.h++[.clo b (fs++gs)]) x f:=by
    intro i f hf';simp only[zdd]at hf';rw[zzj]at hf';split at hf'
    ·next br=>
     obtain ⟨x,x1,x2⟩:=f2 i f hf';refine ⟨x,?_,x2.mono (M1.rel.grown _) zhE⟩;rw[jG,if_pos (by omega),gI,if_neg (by omega),if_pos (by omega),show m1.s.free+1+i-(m1.s.free+1)=i by omega];exact x1
    ·next br=>
     have fX:=(zyL.1 hf').1;have dY:=zmd (t3 (i-fs.length) f hf');rw[zdF]at dY;obtain ⟨w,x,w1,w2,w3⟩:=M1.rel.word (d:=2+(i-fs.length)) (by omega);rw[show A.st.length-1-(2+(i-fs.length))=A.st.length-2-1-(i-fs.length) by omega,dY]at w1;cases w1;refine ⟨x,?_,Rf.mono (M1.rel.grown _) zhE w3⟩;rw[jG,if_neg (by omega),if_pos (by omega),show m1.s.free+1+i-s2.free=i-fs.length by omega,Fs _ (by omega)];exact w2
   have R2:=M1.rel.alloc (ws':=pC) (nd:=.clo b (fs++gs)) ⟨bU.1,by rw[zyT,t2];exact hg.1⟩ rfl (by rw[ph];omega) DK (fun j hj=>by
    rw[ph]at hj;rw[jG];by_cases h1:j<s2.free
    ·rw[if_pos h1,gI,if_neg (by omega),if_neg (by omega)]
    ·rw[if_neg h1,if_neg (by omega),gI,if_neg (by omega),if_neg (by omega)])
    ⟨(by rw[jG,if_pos (by omega),gI,if_pos rfl];simp only[hdr];rw[zyT,t2]),(fun v hv=>(by cases hv)),kV⟩
   rw[ph]at R2;obtain ⟨u1,u2⟩:=zhQ R2 (c:=2+c) (by omega);obtain ⟨v1,v2⟩:=zc5 u2 (x:=m1.s.free) (w:=.ad A.h.length) (by simp only;omega) ⟨m1.s.free,rfl,.inl (by simp[grow])⟩;unfold MSt.extended;rw[q2];simp only;rw[hc,hw,zy2,if_pos ⟨hg.1,by have:=bU.1;omega,by omega,by omega,hg.2⟩,bg];simp only;rw[if_pos ⟨by rw[gI,if_neg (by omega),if_neg (by omega)];exact q6.1,zB,by omega,by omega⟩];have bP:({ s2 with ws:=Go.splice s2.ws s2.free (s2.words (s2.top+2) c),free:=s2.free+c }:Sto)={ m1.s with ws:=pC,free:=m1.s.free+(1+fs.length+c) }:=by
    rw[<-e3,rq];rw[e2];simp only[Sto.mk.injEq];refine ⟨trivial,trivial,trivial,by omega,trivial⟩
   rw[bP,u1];simp only[zzD];rw[v1];simp only[zzP];exact zaS.ok ⟨v2,M1.half,M1.fuel,M1.next,M1.below,zoT M1.vi rfl⟩
 ·exact zaS.none _ _ _
theorem ztq(R:Rel s fc h st fns φ){lk lf:Nat}(hl:lk<=st.length)(kg:lf≠0)(bZ:lf<=1000000)(ew:s.free+1<=s.top):∃ s',s.leave lk lf=some s'/\Rel s' fc h (leave st lk lf) fns φ/\s'.free=s.free/\s'.top=s.top-1/\s'.half=s.half/\s'.ws.length=s.ws.length:=by
 have fg:=R.tp;have gS:=R.hi;have aN:(s.words s.top lk).length=lk:=by unfold Sto.words;rw[zzf,zzu];omega
 have aK:(Go.splice s.ws (s.top-1) (s.words s.top lk)).length=s.ws.length:=zzM _ _ _ (by rw[aN];omega);refine ⟨{ s with top:=s.top-1,ws:=(Go.splice s.ws (s.top-1) (s.words s.top lk)).set (s.top-1+lk) (Mk 2 lf) },?_,?_,rfl,rfl,rfl,by simp only[zy6];exact aK⟩
 ·unfold Sto.leave;rw[if_pos ⟨by omega,by omega,bZ⟩]
 ·have aY:∀ j,((Go.splice s.ws (s.top-1) (s.words s.top lk)).set (s.top-1+lk) (Mk 2 lf))[j]?=if j=s.top-1+lk then some (Mk 2 lf) else if s.top-1<=j/\j<s.top-1+lk then s.ws[j+1]? else s.ws[j]?:=by
   intro j;rw[zyV,aK];by_cases h1:s.top-1+lk=j
   ·rw[if_pos h1,if_pos (by omega),if_pos h1.symm]
   ·have iB:¬ j=s.top-1+lk:=fun e=>h1 e.symm
    rw[if_neg h1,if_neg iB,zbu _ _ _ _ (by rw[aN];omega),aN];by_cases h2:j<s.top-1
    ·rw[if_pos h2,if_neg (by omega)]
    ·rw[if_neg h2];by_cases h3:j<s.top-1+lk
     ·rw[if_pos h3,if_pos (by omega)];unfold Sto.words;rw[zzy,if_pos (by omega),zzx];congr 1;omega
     ·rw[if_neg h3,if_neg (by omega)]
  unfold leave;rw[if_neg kg];refine R.zeV (by rw[zy6];exact aK) (fun j h1 h2=>by rw[aY,if_neg (by omega),if_neg (by omega)]) (by omega) (by simp;omega) (fun i w hw=>?_);rw[aY];rw[zzk,zzj,zzf,zzV (by omega)]at hw;split at hw
  ·next br=>
   rw[zzy,if_pos br]at hw;obtain ⟨y,y1,y2⟩:=R.stk i w hw;exact ⟨y,by rw[if_neg (by omega),if_neg (by omega)];exact y1,y2⟩
  ·next br=>
   by_cases h0:i=st.length-lk
   ·subst h0;simp at hw;subst hw;exact ⟨Mk 2 lf,by rw[if_pos (by omega)],rfl⟩
   ·rw[List.singleton_append,show i-(st.length-lk)=(i-(st.length-lk)-1)+1 by omega,zzT,zzx]at hw;have aj:=(zyL.1 hw).1;obtain ⟨y,y1,y2⟩:=R.stk _ w hw;refine ⟨y,?_,y2⟩;rw[if_neg (by omega),if_pos (by omega),<-y1];congr 1;omega
theorem zvi(M:MR sl hf m A φ){lk lf:Nat}(ht:A.st.getLast?=some (.ad a))(hn:A.h[a]?=some (.clo b fs))(_hb:sl[b]?=some n):zaS sl hf (m.call lk lf) (A.call hf b lk lf fs):=by
 have bU:=M.rel.ok a _ hn;obtain ⟨p,p1,p2,p3,p4,p5,p6⟩:=M.rel.zdB ht hn rfl;have hc:cnt (hdr (.clo b fs))=fs.length:=zi9 bU rfl;unfold MSt.call;rw[p2];simp only;rw[hc];refine zcS M (fun m1 φ1 M1 hr ho=>?_);split
 ·next hg=>
  obtain ⟨q,q1,q2,q3,q4,q5,q6⟩:=M1.rel.zdB ht hn rfl;have cT:sz (.clo b fs)=1+fs.length:=rfl;have gS:=M1.rel.hi;have iY:=M1.rel.ft;have yd:=M1.rel.tp;obtain ⟨u1,u2⟩:=zhQ M1.rel (c:=2) (by omega);have hcut:A.st.take (A.st.length-2)=zcE A.st 2:=rfl;rw[hcut]at u2;have hL:∃ s3,(if lf=0 then some { m1.s with top:=m1.s.top+2 } else Sto.leave { m1.s with top:=m1.s.top+2 } lk lf)=some s3/\Rel s3 m1.fns A.h (leave (zcE A.st 2) lk lf) A.fns φ1/\s3.free=m1.s.free/\m1.s.top<=s3.top/\s3.half=m1.s.half/\s3.ws.length=m1.s.ws.length:=by
   by_cases h0:lf=0
   ·rw[if_pos h0];refine ⟨_,rfl,?_,rfl,by simp only;omega,rfl,rfl⟩;unfold leave;rw[if_pos h0];exact u2
   ·rw[if_neg h0];obtain ⟨s3,l1,l2,l3,l4,l5,l6⟩:=ztq u2 (lk:=lk) (lf:=lf) (by rw[zdF];omega) h0 hg.2 (by simp only;omega);exact ⟨s3,l1,l2,l3,by rw[l4];simp only;omega,l5,l6⟩
  obtain ⟨s3,l1,l2,l3,l4,l5,l6⟩:=hL;obtain ⟨a1,a2,a3⟩:=l2.zi2 q1 hn rfl;have EA:=l2.hi;have Ev:=l2.ft;have Fg:=l2.tp;obtain ⟨f1,f2⟩:=a3.fields (by simp only[zdd];omega);simp only[zdd]at f1 f2;obtain ⟨v1,v2⟩:=zgq l2 (fs:=fs) f1 (by rw[f1];omega) f2;obtain ⟨s4,e4⟩:∃ s4:Sto,s4={ s3 with top:=s3.top-(s3.words (q+1) fs.length).length,ws:=Go.splice s3.ws (s3.top-(s3.words (q+1) fs.length).length) (s3.words (q+1) fs.length) }:=⟨_,rfl⟩;rw[<-e4]at v1 v2;have h4:s4.half=m1.s.half:=by rw[e4];exact l5
  obtain ⟨b1,b2,b3⟩:=v2.zi2 q1 hn rfl;unfold MSt.called;rw[q2];simp only;rw[u1];simp only;rw[l1];simp only;rw[a3.head bU rfl];simp only;rw[hc,if_neg (by omega),v1];simp only;rw[b3.head bU rfl];simp only[zzP];refine zaS.ok (φ:=φ1) ⟨v2,h4.trans M1.half,M1.fuel,?_,M1.below,M1.vi⟩;simp only[hdr];exact zdE (by omega) bU.2
 ·exact zaS.none _ _ _
theorem zpc(M:MR sl hf m A φ)(c:Nat){r:Except Nat (Bool × Ma)}(h:A.za5 hf sl c=some r):
  match r with
  |.error k=>m.za5 sl c=some (.error k)
  |.ok q=>∃ m' φ',m.za5 sl c=some (.ok (q.1,m'))/\MR sl hf m' q.2 φ':=by
 unfold Ma.za5 at h;cases ht:A.st.getLast? with
 |none=>rw[ht]at h;simp at h
 |some w=>
  rw[ht]at h;cases w with
  |mk _ _=>simp at h
  |ad a=>
   simp only at h;cases hn:A.h[a]? with
   |none=>rw[hn]at h;simp at h
   |some nd=>
    rw[hn]at h;have hl:∀ nd',A.h[a]?=some nd'->zaV nd'=false->∃ p,m.s.nodeAt 0=some (p,hdr nd')/\m.s.head p=some (hdr nd')/\m.s.ws[p]?=some (hdr nd')/\0<=hdr nd'/\hdr nd' < 9223372036854775808:=fun nd' gw hf'=>by
     obtain ⟨p,p1,p2,p3,p4,p5,p6⟩:=M.rel.zdB ht gw hf';obtain ⟨r1,r2⟩:=zde (M.rel.ok a _ gw);exact ⟨p,p2,p6.head (M.rel.ok a _ gw) rfl,p6.1,r1,r2⟩
    cases nd with
    |num v=>
     simp only at h;cases h;obtain ⟨p,h1,h2,h3,h4,h5⟩:=hl _ hn rfl;simp only;unfold MSt.za5;rw[h1];simp only;unfold Sto.zfJ;rw[h3];simp only;rw[if_neg (by omega),if_neg (by simp[hdr])];simp
    |data t fs=>
     simp only at h;cases h;obtain ⟨p,h1,h2,h3,h4,h5⟩:=hl _ hn rfl;simp only;unfold MSt.za5;rw[h1];simp only;unfold Sto.zfJ;rw[h3];simp only;rw[if_neg (by omega),if_neg (by simp only[hdr];rw[zbx (by omega)];omega)];simp
    |clo b fs=>
     simp only at h;obtain ⟨p,h1,h2,h3,h4,h5⟩:=hl _ hn rfl;have bU:=M.rel.ok a _ hn;cases hb:sl[b]? with
     |none=>rw[hb]at h;simp at h
     |some n=>
      rw[hb]at h;simp only at h;split at h
      ·cases h
      ·next aj=>
       have mO:m.s.zfJ sl p=some ((n:Int)-fs.length):=by
        unfold Sto.zfJ;rw[h3];simp only;rw[if_neg (by omega),if_pos (by simp only[hdr];exact zbx (by omega))];have hw:hdr (.clo b fs)/65536=(b:Int):=by simp only[hdr];exact zdE (by omega) bU.2
        have iG:hdr (.clo b fs)/16%4096=(fs.length:Int):=by simp only[hdr];exact zeb (by omega) bU.2
        rw[hw,zy2,hb,iG]
       have Fj:m.za5 sl c=(if (c:Int)<(n:Int)-fs.length then (match m.extend c with|none=>none|some (.error k)=>some (.error k)|some (.ok m')=>some (.ok (false,m'))) else if 2000000<c then none else (match m.call (n-fs.length) (c-(n-fs.length)) with|none=>none|some (.error k)=>some (.error k)|some (.ok m')=>some (.ok (true,m')))):=by
        unfold MSt.za5;rw[h1];simp only;rw[mO];simp only;rw[if_neg (by omega),show ((n:Int)-fs.length).toNat=n-fs.length by omega];rfl
       rw[Fj];split at h
       ·next aN=>
        rw[if_pos (by omega)];cases he:A.extend hf b c fs with
        |none=>rw[he]at h;simp at h
        |some q=>
         rw[he]at h;have hs:=zrs M (c:=c) ht hn hb q he;cases q with
         |error k=>simp only at h hs;cases h;simp only;rw[hs]
         |ok A'=>
          simp only at h hs;cases h;obtain ⟨m',φ',g1,g2⟩:=hs;simp only;rw[g1];exact ⟨m',φ',rfl,g2⟩
       ·next aN=>
        rw[if_neg (by omega)];split at h
        ·cases h
        ·next DI=>
         rw[if_neg DI];cases he:A.call hf b (n-fs.length) (c-(n-fs.length)) fs with
         |none=>rw[he]at h;simp at h
         |some q=>
          rw[he]at h;have hs:=zvi M (lk:=n-fs.length) (lf:=c-(n-fs.length)) ht hn hb q he;cases q with
          |error k=>simp only at h hs;cases h;simp only;rw[hs]
          |ok A'=>
           simp only at h hs;cases h;obtain ⟨m',φ',g1,g2⟩:=hs;simp only;rw[g1];exact ⟨m',φ',rfl,g2⟩
    |busy=>simp at h
    |fwd b=>simp at h
variable {sl:List Nat} {hf:Nat} {m:MSt} {A:Ma} {φ:Nat->Option Nat}
theorem zne(hk:k<4)(hb:b<1000000000):waits (Mk k b)=some (k,b):=by
 unfold waits Mk;rw[if_pos (by omega)];congr 2
 ·omega
 ·omega
variable {v:Nat}
theorem zsi(M:MR sl hf m A φ){j0:Nat}{nv:Nd}(h3:3<=A.st.length)(hv:A.st[A.st.length-1]?=some (.ad v))(_hk:A.st[A.st.length-2]?=some (.mk 0 j0))(hc:A.st[A.st.length-3]?=some (.ad c))(hb:A.h[c]?=some .busy)(ay:A.h[v]?=some nv)(ed:val sl nv):
  ∃ s',m.s.update=some s'/\MR sl hf { m with s:=s' } { A with h:=A.h.set c (.fwd v),st:=zcE A.st 3++[.ad v] } φ:=by
 have AU:=zxZ ed;have AT:v≠c:=fun e=>by subst e;rw[hb]at ay;cases ay;exact ed
 have fg:=M.rel.tp;have gS:=M.rel.hi;have iY:=M.rel.ft;have eE:=M.rel.wl;obtain ⟨w,x,w1,w2,w3⟩:=M.rel.word (d:=0) (by omega);rw[zAl,hv]at w1;cases w1;rw[zzO]at w2;obtain ⟨w,y,y1,y2,y3⟩:=M.rel.word (d:=2) (by omega);rw[show A.st.length-1-2=A.st.length-3 by omega,hc]at y1;cases y1;obtain ⟨pv,rfl,v2,v3,v4,v5⟩:=M.rel.zfo w3 ay AU;obtain ⟨pc,rfl,c2,c3,c4,c5⟩:=M.rel.zfo y3 hb rfl;have hs:=zhd nv;have mT:sz .busy=1:=rfl;rw[mT]at c4;refine ⟨{ m.s with ws:=(m.s.ws.set pc (Hd 4 pv 0)).set (m.s.top+2) pv,top:=m.s.top+2 },?_,?_⟩
 ·unfold Sto.update;rw[w2];simp only;rw[y2];simp only;rw[if_pos ⟨by omega,by omega,by omega,by omega⟩,zy2,zy2]
 ·have mR:∀ (x' b':Nat),A.h[x']?=some (.fwd b')->b'≠c:=fun x' b' hx e=>by
   obtain ⟨n',g1,g2⟩:=M.vi x' b' hx;rw[e,hb]at g1;cases g1;exact g2
  have R1:=M.rel.zxM (ws':=m.s.ws.set pc (Hd 4 pv 0)) (nd':=.fwd v) c2 hb rfl trivial (by simp[sz]) (by simp) (fun j hj=>by rw[zyV,if_neg (by simp only[sz]at hj;omega)])
   (.inl ⟨v,pv,rfl,v2,by rw[zyV,if_pos rfl,if_pos (by omega)]⟩) (fun _=>mR) (fun b' e=>by cases e;exact ⟨AT,nv,ay,AU⟩)
  have dC:∀ (c' b':Nat),A.h[c']?=some (.fwd b')->(A.h.set c (.fwd v))[c']?=some (.fwd b'):=zqC hb rfl;have R2:=R1.zeV (ws':=(m.s.ws.set pc (Hd 4 pv 0)).set (m.s.top+2) pv) (top':=m.s.top+2) (st':=zcE A.st 3++[.ad v]) (by simp) (fun j h1 h2=>by simp only at h1 h2 ⊢;rw[zyV,if_neg (by omega)]) (by simp only;omega) (by simp only[zyT,zy0,zdF];omega) (fun i w hw=>by
   simp only;rw[zzj,zdF]at hw;split at hw
   ·next br=>
    have fY:=zmd hw;obtain ⟨z,z1,z2⟩:=R1.stk i w fY;simp only at z1;exact ⟨z,by rw[zyV,if_neg (by omega)];exact z1,z2⟩
   ·next br=>
    have:=(zyL.1 hw).1;simp at this;have h1:i-(A.st.length-3)=0:=by omega
    rw[h1]at hw;simp at hw;subst hw;refine ⟨pv,by rw[show m.s.low+m.s.half-1-i=m.s.top+2 by omega,zyV,if_pos rfl,if_pos (by rw[zy6];omega)],⟨pv,rfl,.inl v2⟩⟩)
  refine ⟨R2,M.half,M.fuel,M.next,M.below,fun a b oQ=>?_⟩;have aN:=(zyL.1 hb).1;simp only at oQ ⊢;rw[zyV]at oQ;by_cases e:c=a
  ·rw[if_pos e,if_pos aN]at oQ;cases oQ;exact ⟨nv,by rw[zyV,if_neg (fun e=>AT e.symm)];exact ay,ed⟩
  ·rw[if_neg e]at oQ;obtain ⟨n',g1,g2⟩:=M.vi a b oQ;exact ⟨n',by rw[zyV,if_neg (fun e=>mR a b oQ e.symm)];exact g1,g2⟩
theorem zdT:∀ (g:Nat) (m:MSt) (A:Ma) (φ:Nat->Option Nat),MR sl hf m A φ->zaS sl hf (m.za1 sl g) (A.za1 hf sl g)
 |0,_,_,_,_=>zaS.none _ _ _
 |g+1,m,A,φ,M=>by
  have fg:=M.rel.tp;have iY:=M.rel.ft;have uM:=M.rel.lf;have eE:=M.rel.wl;have gS:=M.rel.hi;rw[Ma.za1,MSt.za1];by_cases h1:A.st.length<=1
  ·rw[if_pos h1,if_pos (by omega)];exact zaS.ok ⟨M.rel,M.half,M.fuel,rfl,M.below,M.vi⟩
  ·rw[if_neg h1,if_neg (by omega)];obtain ⟨w,x,w1,w2,w3⟩:=M.rel.word (d:=1) (by omega);rw[show A.st.length-1-1=A.st.length-2 by omega]at w1;rw[w1];cases w with
   |ad a=>exact zaS.none _ _ _
   |mk k b=>
    have hx:x=Mk k b:=w3;simp only;by_cases iC:1000000000<=b
    ·rw[if_pos iC];exact zaS.none _ _ _
    ·rw[if_neg iC,w2,hx];simp only;by_cases dF:k=0
     ·subst dF;rw[if_pos rfl,zne (by omega) (by omega)];simp only;rw[if_pos trivial];cases hv:A.st[A.st.length-1]? with
      |none=>exact zaS.none _ _ _
      |some wv=>
       cases wv with
       |mk _ _=>exact zaS.none _ _ _
       |ad v=>
        simp only;by_cases h3:3<=A.st.length
        ·rw[if_pos h3];cases hc:A.st[A.st.length-3]? with
         |none=>exact zaS.none _ _ _
         |some wc=>
          cases wc with
          |mk _ _=>exact zaS.none _ _ _
          |ad c=>
           simp only;have go:∀ nv,A.h[c]?=some .busy->A.h[v]?=some nv->val sl nv->zaS sl hf (match m.s.update with|none=>none|some s'=>MSt.za1 sl g { m with s:=s' }) (Ma.za1 hf sl g { A with h:=A.h.set c (.fwd v),st:=zcE A.st 3++[.ad v] }):=fun nv hb ay ed=>by
            obtain ⟨s',u1,u2⟩:=zsi M h3 hv w1 hc hb ay ed;rw[u1];exact zdT g _ _ φ u2
           cases iG:A.h[c]? with
           |none=>exact zaS.none _ _ _
           |some nc=>
            cases hvn:A.h[v]? with
            |none=>cases nc <;> exact zaS.none _ _ _
            |some nv=>
             cases nc with
             |busy=>
              cases nv with
              |num z=>exact go _ iG hvn trivial
              |data t fs=>exact go _ iG hvn trivial
              |clo b' fs=>
               simp only;by_cases ed:∃ n,sl[b']?=some n/\fs.length<n
               ·rw[if_pos ed];exact go _ iG hvn ed
               ·rw[if_neg ed];exact zaS.none _ _ _
              |busy=>exact zaS.none _ _ _
              |fwd _=>exact zaS.none _ _ _
             |num _=>exact zaS.none _ _ _
             |data _ _=>exact zaS.none _ _ _
             |clo _ _=>exact zaS.none _ _ _
             |fwd _=>exact zaS.none _ _ _
        ·rw[if_neg h3];exact zaS.none _ _ _
     ·rw[if_neg dF];by_cases cK:k=1
      ·subst cK;rw[if_pos rfl,zne (by omega) (by omega)];simp only;rw[if_neg (by omega),if_pos trivial];cases hv:A.st[A.st.length-1]? with
       |none=>exact zaS.none _ _ _
       |some wv=>
        cases wv with
        |mk _ _=>exact zaS.none _ _ _
        |ad v=>
         obtain ⟨w,y,y1,y2,y3⟩:=M.rel.word (d:=0) (by omega);rw[zAl,hv]at y1;cases y1;rw[zzO]at y2;simp only;rw[y2];simp only;have R2:=M.rel.zeV (ws':=m.s.ws.set (m.s.top+1) y) (top':=m.s.top+1) (st':=zcE A.st 2++[.ad v]) (by simp) (fun j h1 h2=>by rw[zyV,if_neg (by omega)]) (by omega) (by simp only[zyT,zy0,zdF];omega) (fun i w hw=>by
          rw[zzj,zdF]at hw;split at hw
          ·next br=>
           obtain ⟨z,z1,z2⟩:=M.rel.stk i w (zmd hw);exact ⟨z,by rw[zyV,if_neg (by omega)];exact z1,z2⟩
          ·next br=>
           have:=(zyL.1 hw).1;simp at this;have h1:i-(A.st.length-2)=0:=by omega
           rw[h1]at hw;simp at hw;subst hw;exact ⟨y,by rw[show m.s.low+m.s.half-1-i=m.s.top+1 by omega,zyV,if_pos rfl,if_pos (by omega)],y3⟩)
         have dW:Sto.pop { m.s with ws:=m.s.ws.set (m.s.top+1) y } 1=some { m.s with ws:=m.s.ws.set (m.s.top+1) y,top:=m.s.top+1 }:=by
          unfold Sto.pop;rw[if_pos (by simp only;omega)]
         rw[dW];exact zaS.ok (φ:=φ) ⟨R2,M.half,M.fuel,rfl,M.below,M.vi⟩
      ·rw[if_neg cK];by_cases aG:k=2
       ·subst aG;rw[if_pos rfl,zne (by omega) (by omega)];simp only;rw[if_neg (by omega),if_neg (by omega),if_pos trivial];cases ha:A.za5 hf sl b with
        |none=>exact zaS.none _ _ _
        |some r=>
         have hs:=zpc M b ha;cases r with
         |error j=>
          simp only at hs;rw[hs];exact zaS.error _ _ _
         |ok q=>
          simp only at hs;obtain ⟨m',φ',g1,g2⟩:=hs;rw[g1];simp only;by_cases hq:q.1=true
          ·rw[if_pos hq,if_pos hq];exact zaS.ok g2
          ·rw[if_neg hq,if_neg hq];exact zdT g _ _ _ g2
       ·rw[if_neg aG];exact zaS.none _ _ _
theorem zlM(R:Rel s fc h st fns φ){x:Int}(h0:0<st.length)(hw:RW φ h x w):Rel { s with ws:=s.ws.set s.top x } fc h (zcE st 1++[w]) fns φ:=by
 have fg:=R.tp;have gS:=R.hi;have iY:=R.ft;have:=R.zeV (ws':=s.ws.set s.top x) (top':=s.top) (st':=zcE st 1++[w]) (by simp) (fun j h1 h2=>by rw[zyV,if_neg (by omega)]) iY (by simp only[zyT,zy0,zdF];omega) (fun i w' fY=>by
  rw[zzj,zdF]at fY;split at fY
  ·next br=>
   obtain ⟨z,z1,z2⟩:=R.stk i w' (zmd fY);exact ⟨z,by rw[zyV,if_neg (by omega)];exact z1,z2⟩
  ·next br=>
   have:=(zyL.1 fY).1;simp at this;have h1:i-(st.length-1)=0:=by omega
   rw[h1]at fY;simp at fY;subst fY;exact ⟨x,by rw[show s.low+s.half-1-i=s.top by omega,zyV,if_pos rfl,if_pos (by omega)],hw⟩)
 exact this
theorem zpr(M:MR sl hf m A φ){p:Nat}(ht:A.st.getLast?=some (.ad a))(hn:A.h[a]?=some nd)(gr:zaV nd=false)(hp:φ a=some p):
  zaS sl hf (m.zcy sl p) (match nd with
   |.busy=>some (.error 5)
   |.num _=>A.za1 hf sl (A.st.length+1)
   |.data _ _=>A.za1 hf sl (A.st.length+1)
   |.clo b fs=>(match sl[b]? with|none=>none|some n=>if n=fs.length then A.zdy hf a b fs else if fs.length<n then A.za1 hf sl (A.st.length+1) else none)
   |_=>none):=by
 have bU:=M.rel.ok a _ hn;obtain ⟨q1,q2,q3⟩:=M.rel.zi2 hp hn gr;obtain ⟨r1,r2⟩:=zde bU;have fg:=M.rel.tp;have hh:m.ztg=A.st.length+1:=by unfold MSt.ztg;omega
 unfold MSt.zcy;rw[q3.head bU rfl];simp only;cases nd with
 |num v=>
  rw[if_neg (by simp[hdr])];unfold Sto.zfJ;rw[q3.1];simp only;rw[if_neg (by omega),if_neg (by simp[hdr])];simp only;rw[if_neg (by omega),hh];exact zdT _ _ _ _ M
 |data t fs=>
  rw[if_neg (by simp only[hdr];rw[zbx (by omega)];omega)];unfold Sto.zfJ;rw[q3.1];simp only;rw[if_neg (by omega),if_neg (by simp only[hdr];rw[zbx (by omega)];omega)];simp only;rw[if_neg (by omega),hh];exact zdT _ _ _ _ M
 |busy=>
  rw[if_pos (by simp only[hdr];exact zbx (by omega))];exact zaS.error _ _ _
 |fwd b=>simp[zaV]at gr
 |clo b fs=>
  simp only;cases hb:sl[b]? with
  |none=>exact zaS.none _ _ _
  |some n=>
   simp only;have mO:m.s.zfJ sl p=some ((n:Int)-fs.length):=by
    unfold Sto.zfJ;rw[q3.1];simp only;rw[if_neg (by omega),if_pos (by simp only[hdr];exact zbx (by omega))];have hw:hdr (.clo b fs)/65536=(b:Int):=by simp only[hdr];exact zdE (by omega) bU.2
    have iG:hdr (.clo b fs)/16%4096=(fs.length:Int):=by simp only[hdr];exact zeb (by omega) bU.2
    rw[hw,zy2,hb,iG]
   rw[if_neg (by simp only[hdr];rw[zbx (by omega)];omega),mO];simp only;by_cases ev:n=fs.length
   ·rw[if_pos (by omega),if_pos ev];exact zsF M ht hn hb ev
   ·rw[if_neg (by omega),if_neg ev];by_cases aj:fs.length<n
    ·rw[if_pos aj,hh];exact zdT _ _ _ _ M
    ·rw[if_neg aj];exact zaS.none _ _ _
theorem znN(M:MR sl hf m A φ):zaS sl hf (m.enter sl) (A.enter hf sl):=by
 unfold Ma.enter;cases ht:A.st.getLast? with
 |none=>exact zaS.none _ _ _
 |some w=>
  cases w with
  |mk _ _=>exact zaS.none _ _ _
  |ad a=>
   obtain ⟨g0,g1⟩:=zgn ht;obtain ⟨w,x,w1,w2,w3⟩:=M.rel.word (d:=0) g0;rw[zAl,g1]at w1;cases w1;rw[zzO]at w2;have fg:=M.rel.tp;have gS:=M.rel.hi;have eE:=M.rel.wl;have sD:(zcE A.st 1++[Wd.ad (can A.h a)]).length=A.st.length:=by simp only[zyT,zy0,zdF];omega
   have tr:(zcE A.st 1++[Wd.ad (can A.h a)]).getLast?=some (.ad (can A.h a)):=by simp
   have key:∃ nd p m',A.h[can A.h a]?=some nd/\zaV nd=false/\φ (can A.h a)=some p/\MR sl hf m' { A with st:=zcE A.st 1++[.ad (can A.h a)] } φ/\m.enter sl=m'.zcy sl p:=by
    obtain ⟨q,rfl,hq⟩:=w3;have plain:∀ (c:Nat) (nd:Nd),φ c=some q->A.h[c]?=some nd->zaV nd=false->can A.h a=c->∃ nd p m',A.h[can A.h a]?=some nd/\zaV nd=false/\φ (can A.h a)=some p/\MR sl hf m' { A with st:=zcE A.st 1++[.ad (can A.h a)] } φ/\m.enter sl=m'.zcy sl p:=fun c nd hc hn gr jk=>by
     obtain ⟨b1,b2,b3⟩:=M.rel.zi2 hc hn gr;have bU:=M.rel.ok c nd hn;have R2:=zlM M.rel (x:=q) (w:=.ad (can A.h a)) g0 ⟨q,rfl,.inl (by rw[jk];exact hc)⟩;rw[zqR w2]at R2;refine ⟨nd,q,m,by rw[jk];exact hn,gr,by rw[jk];exact hc,⟨R2,M.half,M.fuel,M.next,M.below,M.vi⟩,?_⟩;unfold MSt.enter Sto.nodeAt;rw[zzO,w2];simp only;rw[if_neg (by omega),zy2,b3.head bU rfl];simp only[zzP];rw[if_neg (zmn gr).1]
    rcases hq with hq|⟨b,hb,hq⟩
    ·obtain ⟨nd,n1,n2,n3,n4⟩:=M.rel.nod a q hq;rcases n4 with ⟨b,p',rfl,n5,n6⟩|⟨n5,_⟩
     ·obtain ⟨nb,iJ,jZ⟩:=M.rel.fw a b n1;obtain ⟨FJ,c1,c2,c3,_⟩:=M.rel.nod b p' n5;have ak:=M.rel.ft;have hk:Hd 4 p' 0%16=4:=zbx (by omega);have hw:Hd 4 p' 0/65536=(p':Int):=zdE (by omega) (by omega);have jk:can A.h a=b:=zgl n1;have R2:=zlM M.rel (x:=p') (w:=.ad (can A.h a)) g0 ⟨p',rfl,.inl (by rw[jk];exact n5)⟩;refine ⟨nb,p',{ m with s:={ m.s with ws:=m.s.ws.set m.s.top p' } },by rw[jk];exact iJ,jZ,by rw[jk];exact n5,⟨R2,M.half,M.fuel,M.next,M.below,M.vi⟩,?_⟩;have eB:=zhd FJ;unfold MSt.enter Sto.nodeAt Sto.head;rw[zzO,w2];simp only;rw[if_neg (by omega),zy2,n6];simp only;rw[if_neg (by unfold Hd;omega)];simp only[zzP];rw[if_pos hk,if_neg (by omega),hw,zy2]
     ·exact plain a nd hq n1 n5 (zdc n1 n5)
    ·obtain ⟨nb,iJ,jZ⟩:=M.rel.fw a b hb;exact plain b nb hq iJ jZ (zgl hb)
   obtain ⟨nd,p,m',k1,k2,k3,k4,k5⟩:=key;rw[k5];have hs:=zpr k4 tr k1 k2 k3;rw[sD]at hs;simp only;rw[k1];cases nd <;> first|exact hs|simp[zaV]at k2
theorem zwo(M:MR sl hf m A φ)(i:Ins):zaS sl hf (m.step sl i) (A.step hf sl i):=by
 cases i with
 |push k=>exact zoa M k
 |zcW f=>exact zrP M f
 |num v=>exact zb2 M v
 |pack t c=>exact ztM M t c
 |close b c=>exact ztL M b c
 |hold b c=>exact zvD M b c
 |fill k c=>exact zvw M k c
 |wait b=>exact zij M 1 b
 |zbF c=>exact zij M 2 c
 |zci c=>exact zut M c
 |zbX=>exact zpD M
 |comp sg=>exact zpo M sg
 |enter=>exact znN M
 |jump b=>exact zaS.ok ⟨M.rel,M.half,M.fuel,rfl,M.below,M.vi⟩
 |choose zao=>exact zrg M zao
theorem zlK:∀ (l:List Ins) (m:MSt) (A:Ma) (φ:Nat->Option Nat),MR sl hf m A φ->zaS sl hf (m.zbb sl l) (A.zbb hf sl l)
 |[],m,A,φ,M=>zaS.ok M
 |i::l,m,A,φ,M=>by
  rw[Ma.zbb,MSt.zbb];unfold MSt.zsJ;rw[M.fuel];by_cases h0:A.fuel=0
  ·rw[if_pos h0,if_pos h0];exact zaS.error _ _ _
  ·rw[if_neg h0,if_neg h0];simp only;have M1:MR sl hf { m with o:={ m.o with fuel:=A.fuel-1 } } { A with fuel:=A.fuel-1 } φ:=⟨M.rel,M.half,rfl,M.next,M.below,M.vi⟩;cases hs:Ma.step hf sl { A with fuel:=A.fuel-1 } i with
   |none=>exact zaS.none _ _ _
   |some r=>
    have hr:=zwo M1 i r hs;cases r with
    |error k=>simp only at hr;rw[hr];exact zaS.error _ _ _
    |ok A2=>
     simp only at hr;obtain ⟨m2,φ2,g1,g2⟩:=hr;rw[g1];exact zlK l m2 A2 φ2 g2
theorem zq3(cd:List (Nat × List Ins)):∀ (g:Nat) (m:MSt) (A:Ma) (φ:Nat->Option Nat),MR (cd.map Prod.fst) hf m A φ->zaS (cd.map Prod.fst) hf (m.work cd g) (A.work hf cd g)
 |0,_,_,_,_=>zaS.none _ _ _
 |g+1,m,A,φ,M=>by
  rw[Ma.work,MSt.work,M.next];by_cases h1:A.next=-1
  ·rw[if_pos h1,if_pos h1];exact zaS.ok M
  ·rw[if_neg h1,if_neg h1];by_cases h2:A.next<0
   ·rw[if_pos h2,if_pos h2];exact zaS.none _ _ _
   ·rw[if_neg h2,if_neg h2];cases hc:cd[A.next.toNat]? with
    |none=>exact zaS.none _ _ _
    |some b=>
     obtain ⟨n,is⟩:=b;simp only;have fg:=M.rel.tp;have M1:MR (cd.map Prod.fst) hf { m with o:={ m.o with below:=(m.s.low:Int)+(m.s.half:Int)-(m.s.top:Int)-(n:Int) } } { A with below:=(A.st.length:Int)-n } φ:=⟨M.rel,M.half,M.fuel,M.next,by simp only;omega,M.vi⟩;cases hs:Ma.zbb hf (cd.map Prod.fst) is { A with below:=(A.st.length:Int)-n } with
     |none=>exact zaS.none _ _ _
     |some r=>
      have hr:=zlK is _ _ φ M1 r hs;cases r with
      |error k=>simp only at hr;rw[hr];exact zaS.error _ _ _
      |ok A2=>
       simp only at hr;obtain ⟨m2,φ2,g1,g2⟩:=hr;rw[g1];exact zq3 cd g m2 A2 φ2 g2
theorem zly:∀ (k i:Nat) (m:MSt) (A:Ma) (φ:Nat->Option Nat),MR sl hf m A φ->zaS sl hf (m.zbm i k) (A.zbm hf i k)
 |0,_,m,A,φ,M=>zaS.ok M
 |k+1,i,m,A,φ,M=>by
  rw[MSt.zbm,Ma.zbm];by_cases hi:i<=1000000000
  ·rw[if_pos hi];refine zcS M (fun m1 φ1 M1 hr ho=>?_);obtain ⟨n1,n2⟩:=zmy M1.rel (nd:=.clo i []) (xs:=[]) ⟨hi,by simp⟩ rfl (by simp[sz];omega) (by simp[sz]) (fun v hv=>by cases hv) (fun j f hf=>by simp[zdd]at hf);have hd:hdr (.clo i [])=Hd 2 i 0:=rfl;rw[hd]at n1 n2;rw[n1];simp only;refine zly k (i+1) _ _ (grow φ1 A.h.length m1.s.free) ⟨?_,M1.half,M1.fuel,M1.next,M1.below,zoT M1.vi rfl⟩;refine ⟨n2.low,n2.len,n2.wl,n2.lf,n2.ft,n2.tp,n2.stk,by simp[n2.fl],fun j a ha=>?_,n2.nod,n2.dis,n2.ok,n2.fw⟩;simp only at ha ⊢;rw[zzj]at ha;split at ha
   ·next gT=>
    obtain ⟨x,x1,x2⟩:=n2.fn j a ha;exact ⟨x,by rw[zzc (by have:=n2.fl;omega)];exact x1,x2⟩
   ·next gT=>
    have:=(zyL.1 ha).1;simp at this;have h1:j-A.fns.length=0:=by omega
    rw[h1]at ha;simp at ha;subst ha;have bZ:=n2.fl;have hj:j=m1.fns.length:=by omega
    exact ⟨m1.s.free,by rw[hj];simp,⟨m1.s.free,rfl,.inl (by simp[grow])⟩⟩
  ·rw[if_neg hi];exact zaS.none _ _ _
variable {nf main:Nat}
theorem zux(M:MR sl hf m A φ)(h1:m.o.nf=nf)(h2:m.o.main=main):zaS sl hf (m.start sl) (A.start hf sl nf main):=by
 unfold MSt.start Ma.start;rw[h1,zy2];cases hl:A.zbm hf 0 nf with
 |none=>exact zaS.none _ _ _
 |some r=>
  have hr:=zly nf 0 m A φ M r hl;cases r with
  |error k=>simp only at hr;rw[hr];exact zaS.error _ _ _
  |ok A1=>
   simp only at hr;obtain ⟨m1,φ1,g1,g2⟩:=hr;rw[g1];simp only;have ho:m1.o.main=main:=by
    have:∀ (k i:Nat) (m m1:MSt),m.zbm i k=some (.ok m1)->m1.o=m.o:=by
     intro k
     induction k with
     |zero=>intro i m m1 h;simp[MSt.zbm]at h;rw[h]
     |succ k ih=>
      intro i m m1 h;rw[MSt.zbm]at h;unfold aft at h;cases hn:m.zdI 1 with
      |none=>rw[hn]at h;simp at h
      |some q=>
       rw[hn]at h;cases q with
       |error j=>simp at h
       |ok m2=>
        simp only at h;have jo:m2.o=m.o:=by
         unfold MSt.zdI at hn;split at hn
         ·cases hn;rfl
         ·split at hn
          ·cases hn
          ·split at hn
           ·simp at hn
           ·cases hn;rfl
        split at h
        ·cases h
        ·exact (ih _ _ _ h).trans jo
    rw[this nf 0 m m1 g1];exact h2
   refine zcS g2 (fun m2 φ2 M2 hr jb=>?_);have cL:m2.o.main=main:=by rw[jb];exact ho
   rw[cL,if_neg (by omega),zy2];cases hf':A1.fns[main]? with
   |none=>simp only[];exact zaS.none _ _ _
   |some a=>
    obtain ⟨x,x1,x2⟩:=M2.rel.fn main a hf';obtain ⟨p1,p2⟩:=zc5 M2.rel hr (w:=.ad a) x2;simp only[x1,p1];exact znN (m:={ m2 with s:={ m2.s with top:=m2.s.top-1,ws:=m2.s.ws.set (m2.s.top-1) x } }) (A:={ A1 with st:=A1.st++[.ad a] }) ⟨p2,M2.half,M2.fuel,M2.next,M2.below,M2.vi⟩
variable {r:Int × Int × Int × Int}
theorem zwu(M:MR sl hf m A φ)(h:A.told=some r):m.told=some r:=by
 unfold Ma.told at h;cases ht:A.st.getLast? with
 |none=>rw[ht]at h;simp at h
 |some w=>
  rw[ht]at h;cases w with
  |mk _ _=>simp at h
  |ad a=>
   simp only at h;cases hn:A.h[a]? with
   |none=>rw[hn]at h;simp at h
   |some nd=>
    rw[hn]at h;cases nd with
    |num v=>
     obtain ⟨p,p1,p2,p3,p4,p5,p6⟩:=M.rel.zdB ht hn rfl;cases h;unfold MSt.told;rw[p2];simp only;rw[if_pos (by simp[hdr]),p6.2.1 v rfl]
    |data t fs=>
     obtain ⟨p,p1,p2,p3,p4,p5,p6⟩:=M.rel.zdB ht hn rfl;have bU:=M.rel.ok a _ hn;cases h;unfold MSt.told;rw[p2];simp only;have hk:hdr (.data t fs)%16=1:=by simp only[hdr];exact zbx (by omega)
     rw[if_neg (by omega),if_pos hk];simp only[hdr];rw[zdE (by omega) bU.2,zeb (by omega) bU.2]
    |clo b fs=>
     obtain ⟨p,p1,p2,p3,p4,p5,p6⟩:=M.rel.zdB ht hn rfl;cases h;unfold MSt.told;rw[p2];simp only;have hk:hdr (.clo b fs)%16=2:=by simp only[hdr];exact zbx (by omega)
     rw[if_neg (by omega),if_neg (by omega)]
    |busy=>simp at h
    |fwd b=>simp at h
variable {cd:List (Nat × List Ins)}
theorem zt2{pv:Value}{words fuel g:Nat}(hw:words<=1000000)(h:zwX (words/2) cd nf main fuel g=some r):runM pv cd nf main words fuel g=some r:=by
 have M0:MR (cd.map Prod.fst) (words/2) (MSt.new pv nf main words fuel) (Ma.new fuel) (fun _=>none):=by
  refine ⟨⟨.inl rfl,by simp only[MSt.new,zzz];omega,by simp only[MSt.new,zzz];exact hw,zyN _,by simp[MSt.new],by simp[MSt.new,Ma.new],by simp[Ma.new],rfl,by simp[Ma.new],by simp,by simp,by simp[Ma.new],by simp[Ma.new]⟩,rfl,rfl,rfl,rfl,by simp[Ma.new]⟩
 unfold zwX at h;unfold runM;cases hs:(Ma.new fuel).start (words/2) (cd.map Prod.fst) nf main with
 |none=>rw[hs]at h;simp at h
 |some q=>
  rw[hs]at h;have hq:=zux M0 (nf:=nf) (main:=main) rfl rfl q hs;cases q with
  |error k=>
   simp only at h hq;cases h;rw[hq]
  |ok A1=>
   simp only at h hq;obtain ⟨m1,φ1,g1,g2⟩:=hq;rw[g1];simp only;cases hw:Ma.work (words/2) cd g A1 with
   |none=>rw[hw]at h;simp at h
   |some q2=>
    rw[hw]at h;have bC:=zq3 cd g m1 A1 φ1 g2 q2 hw;cases q2 with
    |error k=>
     simp only at h bC;cases h;rw[bC]
    |ok A2=>
     simp only at h bC;obtain ⟨m2,φ2,k1,k2⟩:=bC;rw[k1];exact zwu k2 h
def Ma.up (e:Nat) (A:Ma):Ma:={ A with fuel:=A.fuel+e }
def UpR (e:Nat) (a a':Option (Except Nat Ma)):Prop:=∀ q,a=some q ->
 match q with
 |.error j=>j=4\/j=5\/a'=some (.error j)
 |.ok B=>a'=some (.ok (B.up e))
theorem UpR.none{e:Nat}{a':Option (Except Nat Ma)}:UpR e none a':=fun _ h=>by cases h
variable {e:Nat}
theorem UpR.err{j:Nat}:UpR e (some (.error j)) (some (.error j)):=fun q h=>by cases h;exact .inr (.inr rfl)
variable {a':Option (Except Nat Ma)}
theorem UpR.out4 :UpR e (some (.error 4)) a':=fun q h=>by cases h;exact .inl rfl
theorem UpR.out5 :UpR e (some (.error 5)) a':=fun q h=>by cases h;exact .inr (.inl rfl)
theorem UpR.ok{B:Ma}:UpR e (okA B) (okA (B.up e)):=fun q h=>by cases h;rfl
variable {hf hf' e:Nat} {sl:List Nat}{A:Ma}
theorem zfZ(hh:hf<=hf'){f f':Ma->Option (Except Nat Ma)}(h:UpR e (f A) (f' (A.up e))):UpR e (ask hf k A f) (ask hf' k (A.up e) f'):=by
 unfold ask;by_cases h1:Fits hf A k
 ·have h2:Fits hf' (A.up e) k:=fun C c1 c2=>zyR (h1 C c1 c2) hh
  rw[if_pos h1,if_pos h2];exact h
 ·rw[if_neg h1];exact UpR.out4
theorem zcp(hh:hf<=hf')(v:Int):UpR e (A.zau hf v) ((A.up e).zau hf' v):=zfZ hh UpR.ok
theorem zqG(hh:hf<=hf')(nd:List Nat->Nd)(c:Nat):UpR e (A.mkN hf nd c) ((A.up e).mkN hf' nd c):=by
 refine zfZ hh ?_;show UpR e (match zlT A.st c with|none=>none|some fs=>okA _) (match zlT A.st c with|none=>none|some fs=>okA _);cases zlT A.st c with
 |none=>exact UpR.none
 |some fs=>exact UpR.ok
theorem zvX(hh:hf<=hf')(t c:Nat):UpR e (A.zn5 hf t c) ((A.up e).zn5 hf' t c):=by
 unfold Ma.zn5;split
 ·exact zqG hh _ _
 ·exact UpR.none
theorem zvW(hh:hf<=hf')(t c:Nat):UpR e (A.zpH hf t c) ((A.up e).zpH hf' t c):=by
 unfold Ma.zpH;split
 ·exact zqG hh _ _
 ·exact UpR.none
theorem zxo(hh:hf<=hf')(b c:Nat):UpR e (A.hold hf b c) ((A.up e).hold hf' b c):=by
 unfold Ma.hold;split
 ·exact zfZ hh UpR.ok
 ·exact UpR.none
theorem ziU(hh:hf<=hf'){w:Ma->Option Wd}(hw:w (A.up e)=w A):UpR e (A.zjF hf w) ((A.up e).zjF hf' w):=by
 refine zfZ hh ?_;rw[hw];cases w A with
 |none=>exact UpR.none
 |some x=>exact UpR.ok
theorem zxm(k c:Nat):UpR e (A.fill k c) ((A.up e).fill k c):=by
 unfold Ma.fill;rw[show (A.up e).slot k=A.slot k from rfl,show (A.up e).h=A.h from rfl,show (A.up e).st=A.st from rfl];split
 ·split
  ·split
   ·split
    ·exact UpR.none
    ·exact UpR.ok
   ·exact UpR.none
  ·exact UpR.none
 ·exact UpR.none
theorem zwi(c:Nat):UpR e ((A.zci c).map .ok) (((A.up e).zci c).map .ok):=by
 unfold Ma.zci;rw[show (A.up e).below=A.below from rfl,show (A.up e).st=A.st from rfl];split
 ·exact UpR.ok
 ·exact UpR.none
theorem zxc(hh:hf<=hf')(sg:ByteArray)(l r:Int):UpR e (A.calc hf sg l r) ((A.up e).calc hf' sg l r):=by
 unfold Ma.calc;split
 ·exact zcp hh _
 ·split
  ·exact zcp hh _
  ·split
   ·exact zcp hh _
   ·split
    ·split
     ·exact UpR.err
     ·exact zcp hh _
    ·split
     ·exact zqG hh _ _
     ·split
      ·exact zqG hh _ _
      ·exact UpR.none
theorem zrk(hh:hf<=hf')(sg:ByteArray):UpR e (A.compute hf sg) ((A.up e).compute hf' sg):=by
 unfold Ma.compute;rw[show (A.up e).zdW 0=A.zdW 0 from rfl,show (A.up e).zdW 1=A.zdW 1 from rfl];split
 ·exact UpR.none
 ·exact UpR.err
 ·split
  ·exact UpR.none
  ·exact UpR.err
  ·exact zxc hh (A:={ A with st:=zcE A.st 2 }) sg _ _
theorem zva(hh:hf<=hf')(a b:Nat)(fs:List Nat):UpR e (A.zdy hf a b fs) ((A.up e).zdy hf' a b fs):=zfZ hh UpR.ok
theorem zs3(hh:hf<=hf')(b c:Nat)(fs:List Nat):UpR e (A.extend hf b c fs) ((A.up e).extend hf' b c fs):=by
 refine zfZ hh ?_;split
 ·show UpR e (match zlT (zcE A.st 2) c with|none=>none|some fs=>okA _) (match zlT (zcE A.st 2) c with|none=>none|some fs=>okA _);cases zlT (zcE A.st 2) c with
  |none=>exact UpR.none
  |some fs=>exact UpR.ok
 ·exact UpR.none
theorem zxf(hh:hf<=hf')(b lk lf:Nat)(fs:List Nat):UpR e (A.call hf b lk lf fs) ((A.up e).call hf' b lk lf fs):=by
 refine zfZ hh ?_;rw[show (A.up e).st=A.st from rfl];split
 ·exact UpR.ok
 ·exact UpR.none
def UpB (e:Nat) (a a':Option (Except Nat (Bool × Ma))):Prop:=∀ q,a=some q ->
 match q with
 |.error j=>j=4\/j=5\/a'=some (.error j)
 |.ok B=>a'=some (.ok (B.1,B.2.up e))
theorem UpB.of{b:Bool}{a:Option (Except Nat Ma)}:UpR e a a'->UpB e (match a with|none=>none|some (.error k)=>some (.error k)|some (.ok A')=>some (.ok (b,A'))) (match a' with|none=>none|some (.error k)=>some (.error k)|some (.ok A')=>some (.ok (b,A'))):=by
 intro h q hq;cases a with
 |none=>simp at hq
 |some x=>
  have hx:=h x rfl;cases x with
  |error j=>
   simp at hq;subst hq;rcases hx with hx|hx|hx
   ·exact .inl hx
   ·exact .inr (.inl hx)
   ·exact .inr (.inr (by rw[hx]))
  |ok B=>
   simp at hq;subst hq;have ij:a'=some (.ok (B.up e)):=hx;simp only;rw[ij]
theorem zrb(hh:hf<=hf')(c:Nat):UpB e (A.za5 hf sl c) ((A.up e).za5 hf' sl c):=by
 unfold Ma.za5;rw[show (A.up e).h=A.h from rfl,show (A.up e).st=A.st from rfl];split
 ·split
  ·intro q hq;cases hq;exact .inr (.inr rfl)
  ·intro q hq;cases hq;exact .inr (.inr rfl)
  ·split
   ·intro q hq;cases hq
   ·split
    ·intro q hq;cases hq
    ·split
     ·exact UpB.of (zs3 hh _ _ _)
     ·split
      ·intro q hq;cases hq
      ·exact UpB.of (zxf hh _ _ _ _)
  ·intro q hq;cases hq
 ·intro q hq;cases hq
theorem zeQ(hh:hf<=hf'):∀ (g:Nat) {A:Ma},UpR e (A.za1 hf sl g) ((A.up e).za1 hf' sl g)
 |0,A=>by rw[Ma.za1];exact UpR.none
 |g+1,A=>by
  rw[Ma.za1,Ma.za1];rw[show (A.up e).h=A.h from rfl,show (A.up e).st=A.st from rfl];split
  ·exact UpR.ok
  ·split
   ·split
    ·exact UpR.none
    ·split
     ·split
      ·split
       ·split
        ·split
         ·exact zeQ hh g (A:={ A with h:=A.h.set _ (.fwd _),st:=zcE A.st 3++[.ad _] })
         ·exact zeQ hh g (A:={ A with h:=A.h.set _ (.fwd _),st:=zcE A.st 3++[.ad _] })
         ·split
          ·exact zeQ hh g (A:={ A with h:=A.h.set _ (.fwd _),st:=zcE A.st 3++[.ad _] })
          ·exact UpR.none
         ·exact UpR.none
        ·exact UpR.none
       ·exact UpR.none
      ·exact UpR.none
     ·split
      ·split
       ·exact UpR.ok
       ·exact UpR.none
      ·split
       ·next b _ _ _ _ _=>
        have ha:=zrb (e:=e) (sl:=sl) hh (A:=A) b;cases hq:A.za5 hf sl b with
        |none=>exact UpR.none
        |some x=>
         have hx:=ha x hq;cases x with
         |error j=>
          intro q lx;cases lx;rcases hx with hx|hx|hx
          ·exact .inl hx
          ·exact .inr (.inl hx)
          ·exact .inr (.inr (by rw[hx]))
         |ok B=>
          have ij:(A.up e).za5 hf' sl b=some (.ok (B.1,B.2.up e)):=hx;rw[ij];simp only;split
          ·exact UpR.ok
          ·exact zeQ hh g
       ·exact UpR.none
   ·exact UpR.none
theorem zqp(hh:hf<=hf'):UpR e (A.enter hf sl) ((A.up e).enter hf' sl):=by
 unfold Ma.enter;rw[show (A.up e).h=A.h from rfl,show (A.up e).st=A.st from rfl];split
 ·next a _=>
  simp only;have hg:UpR e (Ma.za1 hf sl (A.st.length+1) { A with st:=zcE A.st 1++[.ad (can A.h a)] }) (Ma.za1 hf' sl (A.st.length+1) { (A.up e) with st:=zcE A.st 1++[.ad (can A.h a)] }):=zeQ hh _ (A:={ A with st:=zcE A.st 1++[.ad (can A.h a)] });split
  ·exact UpR.out5
  ·exact hg
  ·exact hg
  ·split
   ·exact UpR.none
   ·split
    ·exact zva hh (A:={ A with st:=zcE A.st 1++[.ad (can A.h a)] }) _ _ _
    ·split
     ·exact hg
     ·exact UpR.none
  ·exact UpR.none
 ·exact UpR.none
theorem znx(hh:hf<=hf'){A:Ma}{t:Nat}{fs:List Nat}:∀ (l:List (Nat × Nat × Nat)),UpR e (A.zcc hf t fs l) ((A.up e).zcc hf' t fs l)
 |[]=>by rw[Ma.zcc,Ma.zcc];exact UpR.err
 |(u,c,b)::l=>by
  rw[Ma.zcc,Ma.zcc];split
  ·split
   ·exact zfZ hh UpR.ok
   ·exact UpR.err
  ·exact znx hh l
theorem zsN(hh:hf<=hf')(zao:List (Nat × Nat × Nat)):UpR e (A.choose hf zao) ((A.up e).choose hf' zao):=by
 unfold Ma.choose;rw[show (A.up e).h=A.h from rfl,show (A.up e).st=A.st from rfl];split
 ·split
  ·exact znx hh _
  ·exact UpR.err
  ·exact UpR.err
  ·exact UpR.none
 ·exact UpR.none
theorem zxU(hh:hf<=hf')(i:Ins):UpR e (A.step hf sl i) ((A.up e).step hf' sl i):=by
 cases i with
 |push k=>exact ziU hh rfl
 |zcW f=>exact ziU hh rfl
 |num x=>exact zcp hh _
 |pack t c=>exact zvX hh _ _
 |close b c=>exact zvW hh _ _
 |hold b c=>exact zxo hh _ _
 |fill k c=>exact zxm _ _
 |wait b=>
  simp only[Ma.step];split
  ·exact ziU hh rfl
  ·exact UpR.none
 |zbF c=>
  simp only[Ma.step];split
  ·exact ziU hh rfl
  ·exact UpR.none
 |zci c=>exact zwi _
 |zbX=>
  simp only[Ma.step];rw[show (A.up e).zdW 0=A.zdW 0 from rfl];cases A.zdW 0 with
  |none=>exact UpR.none
  |some q=>
   cases q with
   |error j=>exact UpR.err
   |ok v=>exact UpR.ok
 |comp sg=>exact zrk hh _
 |enter=>exact zqp hh
 |jump b=>exact UpR.ok
 |choose zao=>exact zsN hh _
theorem zoc(hh:hf<=hf'):∀ (l:List Ins) {A:Ma},UpR e (Ma.zbb hf sl l A) (Ma.zbb hf' sl l (A.up e))
 |[],A=>by rw[Ma.zbb,Ma.zbb];exact UpR.ok
 |i::l,A=>by
  rw[Ma.zbb,Ma.zbb];by_cases h0:A.fuel=0
  ·rw[if_pos h0];exact UpR.out5
  ·have h1:¬ (A.up e).fuel=0:=by show ¬ A.fuel+e=0;omega
   rw[if_neg h0,if_neg h1];have hs:=zxU (e:=e) (sl:=sl) hh (A:={ A with fuel:=A.fuel-1 }) i;have hA:Ma.up e { A with fuel:=A.fuel-1 }={ A.up e with fuel:=(A.up e).fuel-1 }:=by
    unfold Ma.up;simp only[Ma.mk.injEq,true_and,and_true];omega
   rw[hA]at hs;cases hq:Ma.step hf sl { A with fuel:=A.fuel-1 } i with
   |none=>exact UpR.none
   |some x=>
    have hx:=hs x hq;cases x with
    |error j=>
     intro q lx;cases lx;rcases hx with hx|hx|hx
     ·exact .inl hx
     ·exact .inr (.inl hx)
     ·exact .inr (.inr (by rw[hx]))
    |ok B=>
     have ij:Ma.step hf' sl { A.up e with fuel:=(A.up e).fuel-1 } i=some (.ok (B.up e)):=hx;rw[ij];exact zoc hh l
theorem zuR(hh:hf<=hf'){cd:List (Nat × List Ins)}:∀ (g:Nat) {A:Ma},UpR e (Ma.work hf cd g A) (Ma.work hf' cd g (A.up e))
 |0,A=>by rw[Ma.work];exact UpR.none
 |g+1,A=>by
  rw[Ma.work,Ma.work];rw[show (A.up e).next=A.next from rfl,show (A.up e).st=A.st from rfl];split
  ·exact UpR.ok
  ·split
   ·exact UpR.none
   ·split
    ·exact UpR.none
    ·next n is _=>
     have hs:UpR e (Ma.zbb hf (cd.map Prod.fst) is { A with below:=(A.st.length:Int)-n }) (Ma.zbb hf' (cd.map Prod.fst) is ⟨(A.up e).h,A.st,(A.up e).fns,(A.up e).fuel,A.next,(A.st.length:Int)-n⟩):=zoc (e:=e) (sl:=cd.map Prod.fst) hh is (A:={ A with below:=(A.st.length:Int)-n });cases hq:Ma.zbb hf (cd.map Prod.fst) is { A with below:=(A.st.length:Int)-n } with
     |none=>exact UpR.none
     |some x=>
      have hx:=hs x hq;cases x with
      |error j=>
       intro q lx;cases lx;rcases hx with hx|hx|hx
       ·exact .inl hx
       ·exact .inr (.inl hx)
       ·exact .inr (.inr (by rw[hx]))
      |ok B=>
       have ij:Ma.zbb hf' (cd.map Prod.fst) is ⟨(A.up e).h,A.st,(A.up e).fns,(A.up e).fuel,A.next,(A.st.length:Int)-n⟩=some (.ok (B.up e)):=hx;rw[ij];exact zuR hh g
theorem znX(hh:hf<=hf'):∀ (m i:Nat) {A:Ma},UpR e (A.zbm hf i m) ((A.up e).zbm hf' i m)
 |0,i,A=>by rw[Ma.zbm,Ma.zbm];exact UpR.ok
 |m+1,i,A=>by
  rw[Ma.zbm,Ma.zbm];split
  ·refine zfZ hh ?_;exact znX hh m (i+1) (A:={ A with h:=A.h++[.clo i []],fns:=A.fns++[A.h.length] })
  ·exact UpR.none
theorem zwm(hh:hf<=hf')(nf main:Nat):UpR e (A.start hf sl nf main) ((A.up e).start hf' sl nf main):=by
 unfold Ma.start;have hs:=znX (e:=e) hh nf 0 (A:=A);cases hq:A.zbm hf 0 nf with
 |none=>exact UpR.none
 |some x=>
  have hx:=hs x hq;cases x with
  |error j=>
   intro q lx;cases lx;rcases hx with hx|hx|hx
   ·exact .inl hx
   ·exact .inr (.inl hx)
   ·exact .inr (.inr (by rw[hx]))
  |ok B=>
   have ij:(A.up e).zbm hf' 0 nf=some (.ok (B.up e)):=hx;rw[ij];refine zfZ hh ?_;rw[show (B.up e).fns=B.fns from rfl];cases B.fns[main]? with
   |none=>exact UpR.none
   |some a=>exact zqp hh (A:={ B with st:=B.st++[.ad a] })
theorem zpM(hh:hf<=hf'){fuel dP g:Nat}(pW:fuel<=dP)(h:zwX hf cd nf main fuel g=some r)(h4:r≠(4,0,0,0))(h5:r≠(5,0,0,0)):zwX hf' cd nf main dP g=some r:=by
 obtain ⟨e,rfl⟩:∃ e,dP=fuel+e:=⟨dP - fuel,by omega⟩;have hs:=zwm (e:=e) (sl:=cd.map Prod.fst) hh (A:=Ma.new fuel) nf main;rw[show Ma.up e (Ma.new fuel)=Ma.new (fuel+e) from rfl]at hs;unfold zwX at h ⊢;cases hq:(Ma.new fuel).start hf (cd.map Prod.fst) nf main with
 |none=>rw[hq]at h;cases h
 |some x=>
  have hx:=hs x hq;rw[hq]at h;cases x with
  |error j=>
   simp only[zyP]at h;subst h;rcases hx with hx|hx|hx
   ·subst hx;exact absurd rfl h4
   ·subst hx;exact absurd rfl h5
   ·rw[hx]
  |ok B=>
   have ij:(Ma.new (fuel+e)).start hf' (cd.map Prod.fst) nf main=some (.ok (B.up e)):=hx;rw[ij];simp only at h ⊢;have hw:=zuR (e:=e) (cd:=cd) hh g (A:=B);cases bC:Ma.work hf cd g B with
   |none=>rw[bC]at h;cases h
   |some y=>
    have hy:=hw y bC;rw[bC]at h;cases y with
    |error j=>
     simp only[zyP]at h;subst h;rcases hy with hy|hy|hy
     ·subst hy;exact absurd rfl h4
     ·subst hy;exact absurd rfl h5
     ·rw[hy]
    |ok C=>
     have Fx:Ma.work hf' cd g (B.up e)=some (.ok (C.up e)):=hy;rw[Fx];exact h
end Ab
end Go.Proofs.YtgahgkddaljmkaaGreatDoor
