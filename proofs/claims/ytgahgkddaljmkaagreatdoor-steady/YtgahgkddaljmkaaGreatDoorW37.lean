/- Sf5 .. Gc10 -/
import Derived.Test.YtgahgkddaljmkaaGreatDoorW36
set_option maxRecDepth 100000
set_option maxHeartbeats 4000000
namespace Go.Proofs.YtgahgkddaljmkaaGreatDoor
open Tryz
namespace Ab
abbrev zsp:=Int × Int × Int × Int
def Sure (f:Nat->Option zsp) (r:zsp):Prop:=∃ c,∀ g,f (g+c)=some r
end Ab
namespace Sf
open Cp (Nm)
open Ab
variable {X:Cx} {h h':List Nd} {A A':Ma} {F ws:List Wd} {S:List Wd} {B:List Nat}
theorem zjv{d v:Nat}(hd:d<A.st.length)(hs:A.st[A.st.length-1-d]?=some (.ad v))(hv:Vd X.sl A.h v):A.zdW d=some (.error 3)\/∃ x,A.zdW d=some (.ok x):=by
 obtain ⟨nd,n1,n2⟩:=hv;unfold Ma.zdW;rw[if_pos hd,hs];simp only;rw[n1];cases nd with
 |num x=>exact .inr ⟨x,rfl⟩
 |data t fs=>exact .inl rfl
 |clo b fs=>exact .inl rfl
 |busy=>exact n2.elim
 |fwd a=>exact n2.elim
variable {hf:Nat}
theorem zvc{sg:List UInt8}(mU:sg∈Th.six)(l r:Int)(hG:Good X.sys A):Ok (A.calc hf ⟨⟨sg⟩⟩ l r) fun A'=>A'.fuel=A.fuel/\∃ w,Ad A'.h w/\Nx X A A' [w]:=by
 have own:∀ {A':Ma} {nd:Nd},A'={ A with h:=A.h++[nd],st:=A.st++[.ad A.h.length] }->Good X.sys A'->A'.fuel=A.fuel/\∃ w,Ad A'.h w/\Nx X A A' [w]:=fun {A' nd} e hg=>⟨by rw[e],.ad A.h.length,⟨_,rfl,by rw[e];simp⟩,by rw[e],by rw[e],hg,by rw[e];exact G.app nd,by rw[e];exact zyN _⟩
 have hp:∀ v,Ok (A.zau hf v) fun A'=>A'.fuel=A.fuel/\∃ w,Ad A'.h w/\Nx X A A' [w]:=fun v=>zgM (.done (own rfl ⟨hG.1.app trivial,hG.2.1,zyR hG.2.2 (by simp)⟩))
 have ht:∀ b,Ok (A.zww hf b) fun A'=>A'.fuel=A.fuel/\∃ w,Ad A'.h w/\Nx X A A' [w]:=fun b=>(zmv (X:=X) (nd:=fun _=>.data (if b then 2 else 1) []) (ws:=[]) (st:=A.st) hG (by simp) rfl (by simp) (fun fs _ _ f hf=>by simp at hf)).mono fun A' ⟨fs,_,e2,e3⟩=>own e2 e3
 simp only[Th.six,zzo,zzZ,or_false]at mU;unfold Ma.calc;rcases mU with rfl|rfl|rfl|rfl|rfl|rfl
 ·rw[if_pos rfl];exact hp _
 ·rw[if_neg (by decide),if_pos rfl];exact hp _
 ·rw[if_neg (by decide),if_neg (by decide),if_pos rfl];exact hp _
 ·rw[if_neg (by decide),if_neg (by decide),if_neg (by decide),if_pos rfl];split
  ·exact .inl ⟨3,rfl⟩
  ·exact hp _
 ·rw[if_neg (by decide),if_neg (by decide),if_neg (by decide),if_neg (by decide),if_pos rfl];exact ht _
 ·rw[if_neg (by decide),if_neg (by decide),if_neg (by decide),if_neg (by decide),if_neg (by decide),if_pos rfl];exact ht _
theorem zlf{hf t v:Nat}{fs:List Nat}{F0:List Wd}(hG:Good X.sys A)(hs:A.st=S++(F0++[.ad v]))(hK:K X.sys A.h S B)(hB:BZ A.h B)(hw:∀ w∈F0,Ad A.h w)(jX:∀ f∈fs,f<A.h.length):∀ (zao:List (Nat × Nat × Nat)),(∀ o∈zao,CB X o.2.2 (F0.length+o.2.1))->Ok (A.zcc hf t fs zao) fun A'=>Cf X.sys A'/\A'.fuel=A.fuel
 |[],_=>.inl ⟨3,rfl⟩
 |(u,c,b)::l,ha=>by
  rw[Ma.zcc];split
  ·split
   ·next hc=>
    refine zgM (.done ⟨⟨hG,S,B,F0++(fs.map Wd.ad).reverse,?_,hK,hB,.inl ⟨b,rfl,(X.sys.cb _ _ (ha (u,c,b) (by simp))).2.2 _ _ (by simp[hc]) fun w hm=>?_⟩⟩,rfl⟩)
    ·simp only;rw[show zcE A.st 1=S++F0 by rw[hs,<-zzk];exact zef (S++F0) [.ad v],zzk]
    ·rcases zzi.1 hm with hm|hm
     ·exact hw w hm
     ·exact zte jX w hm
   ·exact .inl ⟨3,rfl⟩
  ·exact zlf hG hs hK hB hw jX l fun o ho=>ha o (by simp[ho])
theorem block(hX:X.cd.length<=1000000){b:Nat}(hG:Good X.sys A)(hs:A.st=S++F)(hb:A.below=S.length)(hK:K X.sys A.h S B)(hB:BZ A.h B)(hR:RB X A.h F b):∃ is,X.cd[b]?=some (F.length,is)/\Ok (X.ri is A) fun A'=>Cf X.sys A'/\A'.fuel<A.fuel:=by
 obtain ⟨is,c,hR⟩:=hR;refine ⟨is,c,?_⟩;rcases hR with ⟨hc,hl,hw⟩|⟨F0,v,m,r,q,b2,sg,ns,rfl,hv,hw,hq,q1,q2,q3,rfl,c2,mU⟩|⟨l,r,sg,rfl,hl,hr,rfl,mU⟩|⟨F0,v,zao,rfl,hv,hw,rfl,ha⟩
 ·rcases hc with ⟨m,e,q,hq,q1,q2,rfl⟩|⟨t,ht,rfl⟩
  ·obtain ⟨is,e1,r1⟩:=zq1 hX m hq;rw[e1,q1,zzb];exact r1 (base:=S) (F0:=F) (κ:=[]) rfl ⟨by simp[hs],hb,hG,by simpa using FO.all q2.symm hw⟩ (by simpa using hK) hB
  ·refine zb3 (a:=[_]) (b:=[.enter]) (ri1 fun h0=>?_);simp only[Ma.step,Ma.zn5];rw[if_pos ⟨by omega,hl⟩];refine (zmv (X:=X) (nd:=.data t) (A:={ A with fuel:=A.fuel-1 }) (ws:=F) (st:=S) hG hs rfl hw (fun fs _ h0 f hf=>zyS (h0 f hf) (by simp))).mono fun A1 ⟨fs,_,e2,e3⟩=>?_
   refine (zsW (S:=S) (B:=B) (w:=.ad A.h.length) (by rw[e2]) ⟨_,rfl,by rw[e2];simp⟩ (by rw[e2];exact hK.up (G.app _).gv) (by rw[e2];exact (G.app _).bz hB) e3).mono fun A2 ⟨k,f⟩=>⟨k,?_⟩
   rw[e2]at f;simp only at f;omega
 ·obtain ⟨is,e1,r1⟩:=zq1 hX m hq;have hl:A.st.length=S.length+F0.length+1:=by rw[hs];simp;omega
  have aw:=(zyL.1 c2).1;rw[e1,q1,show [Ins.zbX,.push F0.length,.wait b2]++is=[.zbX]++([.push F0.length]++([.wait b2]++is)) by simp];refine zb3 (ri1 fun h0=>?_);simp only[Ma.step];have hn:=zjv (X:=X) (A:={ A with fuel:=A.fuel-1 }) (d:=0) (v:=v) (by simp only;omega) (by simp only;rw[hl,hs,<-zzk,zy3 (by simp)];simp) hv;rcases hn with hn|⟨x,hn⟩
  ·rw[hn];exact .inl ⟨3,rfl⟩
  ·rw[hn];have r0:Ru X { A with fuel:=A.fuel-1 } (ns++[[]]) S (F0++[.ad v]):=⟨hs,hb,hG,(FO.all q2.symm hw).app (FO.none (ws:=[.ad v]) _ (k:=1) rfl)⟩;refine .done (zb3 (ri1 fun _=>?_));simp only[Ma.step];refine (zrO (X:=X) (A:={ A with fuel:=A.fuel-1 }) (w:=.ad v) hG (r0.slot (i:=F0.length) (by simp))).mono fun A1 ⟨x1,x2⟩=>zb3 (ri1 fun _=>?_)
   simp only[Ma.step];rw[if_pos (by omega)];refine (zrO (X:=X) (w:=.mk 1 b2) x2.zct rfl).mono fun A2 ⟨y1,y2⟩=>?_
   have nx:=x2.trans y2;have hf:=nx.fuel;have aG:K X.sys A2.h (S++([.ad v]++[.mk 1 b2])) B:=.wait (hK.up nx.g.gv) (by omega) (fun h' v' g dZ=>⟨_,c2,.inr (.inr (.inl ⟨v,v',sg,rfl,g.2 v ((nx.g.gv (Y:=X.sys)).2 v hv),dZ,rfl,mU⟩))⟩);refine (r1 (base:=S) (F0:=F0++[.ad v]) (κ:=[.ad v,.mk 1 b2]) rfl ?_ aG (nx.g.bz hB)).mono fun A3 ⟨k,f⟩=>⟨k,by simp only at hf;omega⟩
   have:=r0.next nx (FO.none (ws:=[.ad v,.mk 1 b2]) _ (k:=2) rfl);rw[q3];simpa using this
 ·have xI:A.st.length=S.length+2:=by rw[hs];simp
  refine zb3 (a:=[_]) (b:=[.enter]) (ri1 fun h0=>?_);simp only[Ma.step,Ma.compute];have lq:=zjv (X:=X) (A:={ A with fuel:=A.fuel-1 }) (d:=0) (v:=r) (by simp only;omega) (by simp only;rw[xI,hs,zy3 (by omega),show S.length+2-1-0-S.length=1 by omega];rfl) hr;have cR:=zjv (X:=X) (A:={ A with fuel:=A.fuel-1 }) (d:=1) (v:=l) (by simp only;omega) (by simp only;rw[xI,hs,zy3 (by omega),show S.length+2-1-1-S.length=0 by omega];rfl) hl;rcases lq with hn|⟨x,hn⟩
  ·rw[hn];exact .inl ⟨3,rfl⟩
  ·rw[hn];simp only;rcases cR with cR|⟨y,cR⟩
   ·rw[cR];exact .inl ⟨3,rfl⟩
   ·rw[cR];simp only;rw[show zcE A.st 2=S by rw[hs];exact zef S [.ad l,.ad r]];refine (zvc (X:=X) (A:={ A with fuel:=A.fuel-1,st:=S }) mU y x hG).mono fun A1 ⟨e0,w,w1,w2⟩=>?_
    refine (zsW (S:=S) (B:=B) w2.st w1 (hK.up w2.g.gv) (w2.g.bz hB) w2.zct).mono fun A2 ⟨k,f⟩=>⟨k,?_⟩
    rw[e0]at f;simp only at f;omega
 ·refine ri1 fun h0=>?_
  simp only[Ma.step,Ma.choose];rw[show A.st.getLast?=some (.ad v) by rw[hs];simp];simp only;obtain ⟨nd,n1,n2⟩:=hv;have mR:=hG.1 v nd n1;rw[n1];cases nd with
  |num x=>exact .inl ⟨3,rfl⟩
  |clo b fs=>exact .inl ⟨3,rfl⟩
  |busy=>exact n2.elim
  |fwd a=>exact n2.elim
  |data t fs=>exact (zlf (X:=X) (A:={ A with fuel:=A.fuel-1 }) hG hs hK hB hw mR zao ha).mono fun A2 ⟨k,f⟩=>⟨k,by rw[f];simp only;omega⟩
theorem zo1(hX:X.cd.length<=1000000):∀ (g:Nat) {A:Ma},Cf X.sys A->A.fuel<g->∃ r,(∀ k,Ma.work X.hf X.cd (g+k) A=some r)/\∀ A',r=.ok A'->∃ o,A'.told=some o
 |0,_,_,hg=>by omega
 |g+1,A,⟨hG,S,B,F,hs,hK,hB,hn⟩,hg=>by
  rcases hn with ⟨b,hn,hR⟩|⟨hn,v,rfl,nd,n1,n2⟩
  ·obtain ⟨is,c,hb⟩:=block hX (A:={ A with below:=(A.st.length:Int)-F.length }) (S:=S) (B:=B) hG hs (by simp only;rw[hs];simp) hK hB hR;have hw:∀ k r,X.ri is { A with below:=(A.st.length:Int)-F.length }=some r->Ma.work X.hf X.cd (g+1+k) A=(match r with|.error j=>some (.error j)|.ok A2=>Ma.work X.hf X.cd (g+k) A2):=fun k r hr=>by
    rw[show g+1+k=g+k+1 by omega,Ma.work,if_neg (by omega),if_neg (by omega),show A.next.toNat=b by rw[hn];rfl,c];simp only;rw[show Ma.zbb X.hf X.sl is { A with below:=(A.st.length:Int)-F.length }=some r from hr];cases r <;> rfl
   rcases hb with ⟨j,e⟩|⟨A2,e,hc,hf⟩
   ·exact ⟨.error j,fun k=>hw k _ e,fun _ e=>by cases e⟩
   ·obtain ⟨r,r1,r2⟩:=zo1 hX g hc (by simp only at hf;omega);exact ⟨r,fun k=>(hw k _ e).trans (r1 k),r2⟩
  ·refine ⟨.ok A,fun k=>by rw[show g+1+k=g+k+1 by omega,Ma.work,if_pos hn];rfl,fun A' e=>?_⟩;cases e;unfold Ma.told;rw[show A.st.getLast?=some (.ad v) by rw[hs];simp];simp only;rw[n1];cases nd with
   |num x=>exact ⟨_,rfl⟩
   |data t fs=>exact ⟨_,rfl⟩
   |clo b fs=>exact ⟨_,rfl⟩
   |busy=>exact n2.elim
   |fwd a=>exact n2.elim
theorem zqE(hN:X.N=1300):∀ (l:List Th.zbr) (i:Nat) (bl:List (Nat × List Ins)),i+l.length=X.fns.length->X.fns.length<=bl.length->Cp.lines X.fr X.fns X.N i l bl=X.cd ->
  (∀ f∈l,Cp.Dp X.N f.e/\Cp.wt X.N f.e+f.params.length<=1300/\Kn X (X.fr f.e) (Th.texts f.params).reverse) ->
  (∀ (j:Nat) (b:Nat × List Ins),(j<i\/i+l.length<=j)->bl[j]?=some b->X.cd[j]?=some b)/\(∀ j,j<l.length->∃ k,CB X (i+j) k)/\X.cd.length<=bl.length+8*(l.map fun f=>Cp.wt X.N f.e).sum
 |[],i,bl,_,_,h,_=>by
  rw[Cp.lines]at h;rw[h];exact ⟨fun _ _ _ hb=>hb,by simp,by simp⟩
 |f::l,i,bl,hi,hb,h,hf=>by
  obtain ⟨f1,f2,f3⟩:=hf f (by simp);rw[zy8]at hi;rw[Cp.lines]at h;obtain ⟨sl,aK⟩:∃ sl:List Nm,sl=(Th.texts f.params).reverse:=⟨_,rfl⟩;have s8:sl.length=f.params.length:=by rw[aK];simp[Th.texts]
  rw[<-aK]at h f3;obtain ⟨⟨⟨more,e1,g1⟩,_⟩,_⟩:=Cp.zbC (M:=1300) X.N X.fns (by omega) X.N f.e 0 ⟨bl,sl,[]⟩ f1 f1 (by omega);have aX:=(Cp.zaK 1300 X.N X.fns X.N f.e 0 ⟨bl,sl,[]⟩ f1 (by omega)).2.2;obtain ⟨q,hq⟩:∃ q,q=X.wk X.N f.e 0 ⟨bl,sl,[]⟩:=⟨_,rfl⟩;rw[show Cp.work X.fr X.fns X.N f.e 0 ⟨bl,sl,[]⟩=q from hq.symm]at h e1 aX;simp only at e1 aX;have p7:bl.length<=q.blocks.length:=by rw[e1];simp
  obtain ⟨r1,r2,r3⟩:=zqE hN l (i+1) (q.blocks.set i (sl.length,q.code)) (by omega) (by rw[zy6];omega) h (fun x hx=>hf x (by simp[hx]));have pg:znn X q.blocks:=fun j b hj pR=>r1 j b (by omega) (by rw[zyV,if_neg (by omega)];exact pR)
  refine ⟨fun j b hj pR=>r1 j b (by rw[zy8]at hj;omega) ?_,fun j hj=>?_,?_⟩
  ·rw[zyV,if_neg (by rw[zy8]at hj;omega),e1,zzc (zyL.1 pR).1];exact pR
  ·cases j with
   |zero=>exact ⟨sl.length,by omega,q.code,r1 i _ (by omega) (by rw[zyV,if_pos rfl,if_pos (by omega)]),.inl ⟨X.N,f.e,⟨bl,sl,[]⟩,⟨f1,zyN _,by omega,hb,by rw[<-hq];exact pg,f3⟩,rfl,rfl,by rw[hq]⟩⟩
   |succ j=>
    have:=r2 j (by simpa using hj)
    rwa [show i+(j+1)=i+1+j by omega]
  ·rw[zy6]at r3;rw[zza,zzd];omega
theorem zto{hf:Nat}(hX:X.fns.length<=1000000):∀ (m i:Nat) {A:Ma},i+m=X.fns.length->(∀ j,j<X.fns.length->∃ k,CB X j k)->HT X.sys A.h->A.h.length=i->A.fns=List.range i->A.st=[]->Ok (A.zbm hf i m) fun A'=>Good X.sys A'/\A'.st=[]/\A'.h.length=X.fns.length/\A'.fuel=A.fuel
 |0,i,A,hi,_,ht,hl,hn,hs=>.done ⟨⟨ht,by rw[hn];show _=List.range X.fns.length;rw[<-hi];rfl,by show X.fns.length<=_;omega⟩,hs,by omega,rfl⟩
 |m+1,i,A,hi,hc,ht,hl,hn,hs=>by
  obtain ⟨k,hk⟩:=hc i (by omega);rw[Ma.zbm];split
  ·refine zgM (zto hX m (i+1) (A:={ A with h:=A.h++[.clo i []],fns:=A.fns++[A.h.length] }) (by omega) hc (ht.app ⟨by simp,k,by simp,hk⟩) (by simp[hl]) ?_ hs);simp only;rw[hn,hl,List.range_succ]
  ·next h0=>exact absurd (by omega) h0
theorem zjK{l:List Th.zbr}(ho:Th.zyf 1300 l)(hf fuel:Nat):∃ r,Sure (zwX hf (Cp.program 1300 l) l.length ((Th.zaq l).idxOf Th.zcO) fuel) r:=by
 obtain ⟨X,hX⟩:∃ X:Cx,X=⟨hf,Cp.program 1300 l,Th.zaq l,1300⟩:=⟨_,rfl⟩;have DZ:X.cd=Cp.program 1300 l:=by rw[hX]
 have xf:X.fns=Th.zaq l:=by rw[hX]
 have uD:X.N=1300:=by rw[hX]
 have D0:X.hf=hf:=by rw[hX]
 have bZ:X.fns.length=l.length:=by rw[xf];simp[Th.zaq]
 have s9:∀ (l:List Th.zbr),l.length+(l.map fun f=>Cp.wt 1300 f.e).sum<=(l.map fun f=>Cp.wt 1300 f.e+f.params.length+1).sum:=by
  intro l
  induction l with
  |nil=>simp
  |cons x l ih=>rw[zza,zzd,zza,zzd,zy8];omega
 have dh:=zyR (s9 l) ho.sum;obtain ⟨_,c2,c3⟩:=zqE uD l 0 (List.replicate l.length (0,[])) (by omega) (by simp;omega) (by rw[hX];rfl) (fun f hm=>by
  have:=ho.each hm;rw[uD];refine ⟨ho.dp f hm,by omega,fun x hx=>?_⟩;obtain ⟨x1,x2⟩:=ho.nm f hm x (by have ij:x∈Cp.free X.N f.e:=hx;rw[uD]at ij;exact ij);exact ⟨x1,x2.imp (fun k=>by simpa using k) (fun k=>by rw[xf];exact k)⟩)
 rw[uD]at c3;simp only[zzz]at c3;have rV:X.cd.length<=1000000:=by omega
 have cL:(Th.zaq l).idxOf Th.zcO<X.fns.length:=by rw[xf];exact zzF ho.main
 rw[<-DZ,<-D0,<-bZ];unfold zwX;have dH:=zto (X:=X) (hf:=X.hf) (by omega) X.fns.length 0 (A:=Ma.new fuel) (by omega) (fun j hj=>by have:=c2 j (by omega);rwa [zzG]at this) (fun a nd e=>by simp[Ma.new]at e) rfl rfl rfl;have dY:Ok ((Ma.new fuel).start X.hf (X.cd.map Prod.fst) X.fns.length ((Th.zaq l).idxOf Th.zcO)) fun A'=>Cf X.sys A':=by
  unfold Ma.start;rcases dH with ⟨j,e⟩|⟨A1,e,hg,hs,hl,_⟩
  ·rw[e];exact .inl ⟨j,rfl⟩
  ·rw[e];simp only;refine zgM ?_;rw[show A1.fns[(Th.zaq l).idxOf Th.zcO]?=some ((Th.zaq l).idxOf Th.zcO) by rw[hg.2.1];exact List.getElem?_range cL];simp only;exact (enter (Y:=X.sys) (S:=[]) (B:=[]) (A:={ A1 with st:=A1.st++[.ad ((Th.zaq l).idxOf Th.zcO)] }) (by rw[hs]) (by simp only;omega) .nil ⟨by simp,by simp⟩ hg).mono fun A' k=>k.1
 rcases dY with ⟨j,e⟩|⟨A1,e,hc⟩
 ·exact ⟨((j:Int),0,0,0),0,fun g=>by rw[e]⟩
 ·obtain ⟨r,r1,r2⟩:=zo1 rV (A1.fuel+1) hc (by omega);cases r with
  |error j=>exact ⟨((j:Int),0,0,0),A1.fuel+1,fun g=>by rw[e,Nat.add_comm];simp only;rw[r1]⟩
  |ok A2=>
   obtain ⟨o,ho⟩:=r2 A2 rfl;exact ⟨o,A1.fuel+1,fun g=>by rw[e,Nat.add_comm];simp only;rw[r1];exact ho⟩
end Sf
end Go.Proofs.YtgahgkddaljmkaaGreatDoor
namespace Go.Proofs.YtgahgkddaljmkaaGreatDoor
open Tryz
namespace Ab
variable {sl:List Nat} {hf:Nat} {m:MSt} {A:Ma} {φ:Nat->Option Nat}
abbrev VI (sl:List Nat) (h:List Nd):Prop:=∀ (a b:Nat),h[a]?=some (.fwd b)->∃ nd,h[b]?=some nd/\val sl nd
variable {h:List Nd}
variable {nd:Nd}
theorem zoT(hv:VI sl h)(hf:zaV nd=false):VI sl (h++[nd]):=by
 intro a b hb;rw[zzj]at hb;split at hb
 ·obtain ⟨n,h1,h2⟩:=hv a b hb;exact ⟨n,by rw[zzc (zyL.1 h1).1];exact h1,h2⟩
 ·next nO=>
  have:=(zyL.1 hb).1;simp at this;have h1:a-h.length=0:=by omega
  rw[h1]at hb;simp at hb;rw[hb]at hf;simp[zaV]at hf
theorem zb2(M:MR sl hf m A φ)(v:Int):zaS sl hf (m.zau v) (A.zau hf v):=by
 refine zcS M (fun m' φ' M' hr _=>?_);obtain ⟨n1,n2⟩:=zmy M'.rel (nd:=.num v) (xs:=[v]) trivial rfl (by simp[sz];omega) (by simp[sz]) (fun w hw=>by cases hw;rfl) (fun i f hf=>by simp[zdd]at hf);obtain ⟨p1,p2⟩:=zc5 n2 (x:=m'.s.free) (w:=.ad A.h.length) (by simp[sz];omega) ⟨m'.s.free,rfl,.inl (by simp[grow])⟩;have hd:hdr (.num v)=0:=rfl;rw[hd]at n1 p1;unfold MSt.put;rw[n1];simp only[zzD];rw[p1];exact zaS.ok ⟨p2,M'.half,M'.fuel,M'.next,M'.below,zoT M'.vi rfl⟩
theorem zi6(M:MR sl hf m A φ){c:Nat}{nd:List Nat->Nd}{hd:Int}(hh:∀ fs,fs.length=c->hdr (nd fs)=hd/\zo6 (nd fs)/\zaV (nd fs)=false/\sz (nd fs)=c+1/\(∀ v,nd fs≠.num v)/\∀ (i f:Nat),(zdd (nd fs))[i]?=some f->fs[i]?=some f):zaS sl hf (m.build hd c) (A.mkN hf nd c):=by
 refine zcS M (fun m' φ' M' hr _=>?_);cases ht:zlT A.st c with
 |none=>exact zaS.none _ _ _
 |some fs=>
  obtain ⟨t1,t2,t3⟩:=ziX ht;obtain ⟨e1,e2,e3,e4,e5,e6⟩:=hh fs t2;obtain ⟨w1,w2⟩:=M'.rel.zlT ht;have fg:=M'.rel.tp;have gS:=M'.rel.hi;obtain ⟨n1,n2⟩:=zmy M'.rel (nd:=nd fs) (xs:=m'.s.words m'.s.top c) e2 e3 (by omega) (by rw[w1,e4]) (fun v hv=>absurd hv (e5 v)) (fun i f hf'=>by
   obtain ⟨x,x1,x2⟩:=w2 i f (e6 i f hf');exact ⟨x,x1,x2.mono (M'.rel.grown _) zhE⟩)
  obtain ⟨q1,q2⟩:=zhQ n2 (c:=c) t1;obtain ⟨p1,p2⟩:=zc5 q2 (x:=m'.s.free) (w:=.ad A.h.length) (by simp only;omega) ⟨m'.s.free,rfl,.inl (by simp[grow])⟩;rw[e1]at n1;simp only;rw[if_pos ⟨by omega,by omega⟩];unfold MSt.put;rw[n1];simp only[zzD];rw[e1]at q1 p1;rw[q1];simp only[zzD];rw[p1];rw[e1]at p2;exact zaS.ok ⟨p2,M'.half,M'.fuel,M'.next,M'.below,zoT M'.vi e3⟩
theorem ztM(M:MR sl hf m A φ)(t c:Nat):zaS sl hf (m.pack 1 t c) (A.zn5 hf t c):=by
 unfold MSt.pack Ma.zn5;split
 ·next hc=>exact zi6 M (fun fs hl=>⟨by simp[hdr,hl],⟨hc.1,by omega⟩,rfl,by simp[sz,hl];omega,by simp,fun i f hf=>hf⟩)
 ·exact zaS.none _ _ _
theorem ztL(M:MR sl hf m A φ)(t c:Nat):zaS sl hf (m.pack 2 t c) (A.zpH hf t c):=by
 unfold MSt.pack Ma.zpH;split
 ·next hc=>exact zi6 M (fun fs hl=>⟨by simp[hdr,hl],⟨hc.1,by omega⟩,rfl,by simp[sz,hl];omega,by simp,fun i f hf=>hf⟩)
 ·exact zaS.none _ _ _
theorem zoP(M:MR sl hf m A φ)(b:Bool):zaS sl hf (m.zcN b) (A.zww hf b):=by
 refine zi6 M (fun fs hl=>⟨?_,?_,rfl,by simp[sz],by simp,fun i f hf=>by simp[zdd]at hf⟩)
 ·cases b <;> rfl
 ·cases b <;> exact ⟨by decide,by decide⟩
theorem zqu{x:Int}:∀ (c:Nat) (s:Sto),s.free+c<=s.ws.length->∃ ws',s.fill x c=some { s with ws:=ws',free:=s.free+c }/\ws'.length=s.ws.length/\∀ j,ws'[j]?=if s.free<=j/\j<s.free+c then some x else s.ws[j]?
 |0,s,_=>⟨s.ws,rfl,rfl,fun j=>by rw[if_neg (by omega)]⟩
 |c+1,s,h=>by
  obtain ⟨ws',h1,h2,h3⟩:=zqu c { s with ws:=s.ws.set s.free x,free:=s.free+1 } (by simp only[zy6];omega);refine ⟨ws',?_,by rw[h2];simp,fun j=>?_⟩
  ·rw[Sto.fill,if_pos (by omega),h1];simp only;congr 2;omega
  ·rw[h3];simp only;rw[zyV];by_cases e:s.free=j
   ·rw[if_neg (by omega),if_pos e,if_pos (by omega),if_pos (by omega)]
   ·rw[if_neg e];by_cases h4:s.free+1<=j/\j<s.free+1+c
    ·rw[if_pos h4,if_pos (by omega)]
    ·rw[if_neg h4,if_neg (by omega)]
theorem zvD(M:MR sl hf m A φ)(b c:Nat):zaS sl hf (m.hold b c) (A.hold hf b c):=by
 unfold MSt.hold Ma.hold;split
 ·next hc=>
  refine zcS M (fun m' φ' M' hr _=>?_);have fg:=M'.rel.tp;have gS:=M'.rel.hi;have bg:m'.s.node (Hd 2 b c) []=some { m'.s with free:=m'.s.free+1,ws:=m'.s.ws.set m'.s.free (Hd 2 b c) }:=by
   unfold Sto.node;rw[if_pos (by simp;omega)];simp[Go.splice]
  obtain ⟨ws',f1,f2,f3⟩:=zqu (x:=(m'.s.free:Int)) c { m'.s with free:=m'.s.free+1,ws:=m'.s.ws.set m'.s.free (Hd 2 b c) } (by simp only[zy6];omega);simp only[zy6]at f2;have aY:∀ j,ws'[j]?=if j=m'.s.free then some (Hd 2 b c) else if m'.s.free<j/\j<m'.s.free+1+c then some (m'.s.free:Int) else m'.s.ws[j]?:=by
   intro j;rw[f3];simp only;rw[zyV];by_cases e:m'.s.free=j
   ·rw[if_neg (by omega),if_pos e,if_pos (by omega),if_pos e.symm]
   ·have e':¬ j=m'.s.free:=fun x=>e x.symm
    rw[if_neg e,if_neg e'];by_cases h4:m'.s.free+1<=j/\j<m'.s.free+1+c
    ·rw[if_pos h4,if_pos (by omega)]
    ·rw[if_neg h4,if_neg (by omega)]
  have cT:sz (.clo b (List.replicate c A.h.length))=1+c:=by simp[sz]
  have kV:∀ (i f:Nat),(zdd (.clo b (List.replicate c A.h.length)))[i]?=some f->∃ x,ws'[m'.s.free+1+i]?=some x/\Rf (grow φ' A.h.length m'.s.free) (A.h++[.clo b (List.replicate c A.h.length)]) x f:=by
   intro i f hf;simp only[zdd]at hf;have br:=(zyL.1 hf).1;simp at br;have uI:=zzQ (zy1 hf);exact ⟨m'.s.free,by rw[aY,if_neg (by omega),if_pos (by omega)],⟨m'.s.free,rfl,.inl (by rw[uI];simp[grow])⟩⟩
  have R2:=M'.rel.alloc (ws':=ws') (nd:=.clo b (List.replicate c A.h.length)) ⟨hc.1,by simp;omega⟩ rfl (by rw[cT];omega) f2 (fun j hj=>by rw[cT]at hj;rw[aY,if_neg (by omega),if_neg (by omega)]) ⟨(by rw[aY,if_pos rfl];simp[hdr]),(fun v hv=>(by cases hv)),kV⟩;rw[cT]at R2;obtain ⟨p1,p2⟩:=zc5 R2 (x:=m'.s.free) (w:=.ad A.h.length) (by simp only;omega) ⟨m'.s.free,rfl,.inl (by simp[grow])⟩;unfold MSt.put;rw[bg];simp only[zzD];rw[f1];simp only[zzD];have he:m'.s.free+1+c=m'.s.free+(1+c):=by omega
  rw[he,p1];exact zaS.ok ⟨p2,M'.half,M'.fuel,M'.next,M'.below,zoT M'.vi rfl⟩
 ·exact zaS.none _ _ _
theorem zqU(M:MR sl hf m A φ){k:Nat}{w:Wd}(hs:A.slot k=some w):∃ i x,m.slot k=some i/\m.s.ws[i]?=some x/\RW φ A.h x w/\m.s.top<=i/\i<m.s.low+m.s.half:=by
 unfold Ma.slot at hs;split at hs
 ·next h0=>
  have br:=(zyL.1 hs).1;obtain ⟨x,x1,x2⟩:=M.rel.stk _ w hs;have fg:=M.rel.tp;have hb:=M.below;refine ⟨m.s.low+m.s.half-1-(A.below.toNat+k),x,?_,x1,x2,by omega,by omega⟩;unfold MSt.slot;rw[hb,if_pos ⟨h0,by omega⟩];congr 1;omega
 ·cases hs
theorem zoa(M:MR sl hf m A φ)(k:Nat):zaS sl hf (m.ziT k) (A.zjF hf fun A=>A.slot k):=by
 refine zcS M (fun m' φ' M' hr ho=>?_);cases hs:A.slot k with
 |none=>simp only[hs];exact zaS.none _ _ _
 |some w=>
  obtain ⟨i,x,s1,s2,s3,_⟩:=zqU M' hs;obtain ⟨p1,p2⟩:=zc5 M'.rel hr s3;simp only[hs,s1,s2];unfold MSt.put;rw[p1];exact zaS.ok ⟨p2,M'.half,M'.fuel,M'.next,M'.below,M'.vi⟩
theorem zrP(M:MR sl hf m A φ)(f:Nat):zaS sl hf (m.zcW f) (A.zjF hf fun A=>(A.fns[f]?).map Wd.ad):=by
 refine zcS M (fun m' φ' M' hr ho=>?_);cases hs:A.fns[f]? with
 |none=>simp only[hs,Option.map_none];exact zaS.none _ _ _
 |some a=>
  obtain ⟨x,x1,x2⟩:=M'.rel.fn f a hs;obtain ⟨p1,p2⟩:=zc5 M'.rel hr (w:=.ad a) x2;simp only[hs,x1,zzP];unfold MSt.put;rw[p1];exact zaS.ok ⟨p2,M'.half,M'.fuel,M'.next,M'.below,M'.vi⟩
theorem zij(M:MR sl hf m A φ)(k b:Nat):zaS sl hf (m.zcH k b) (if b<=1000000000 then A.zjF hf fun _=>some (.mk k b) else none):=by
 unfold MSt.zcH;split
 ·refine zcS M (fun m' φ' M' hr ho=>?_);obtain ⟨p1,p2⟩:=zc5 M'.rel (x:=Mk k b) (w:=.mk k b) hr rfl;simp only;unfold MSt.put;rw[p1];exact zaS.ok ⟨p2,M'.half,M'.fuel,M'.next,M'.below,M'.vi⟩
 ·exact zaS.none _ _ _
theorem zut(M:MR sl hf m A φ)(c:Nat):zaS sl hf ((m.zci c).map .ok) ((A.zci c).map .ok):=by
 unfold Ma.zci;split
 ·next hc=>
  have fg:=M.rel.tp;have gS:=M.rel.hi;have iY:=M.rel.ft;have hb:=M.below;have aN:(m.s.words m.s.top c).length=c:=by unfold Sto.words;rw[zzf,zzu];omega
  unfold MSt.zci;rw[hb,if_pos ⟨hc.1,by omega,gS,by omega⟩];simp only[zzP];refine zaS.ok (φ:=φ) ⟨?_,M.half,M.fuel,M.next,M.below,M.vi⟩;refine M.rel.zeV (top':=m.s.low+m.s.half-A.below.toNat-c) (zzM _ _ _ (by rw[aN];omega)) (fun j h1 h2=>by rw[zbu _ _ _ _ (by rw[aN];omega),if_pos (by omega)]) (by omega) (by simp;omega) (fun i w hw=>?_);rw[zbu _ _ _ _ (by rw[aN];omega),aN];rw[zzj,zzf,zzV (by omega)]at hw;split at hw
  ·next br=>
   rw[zzy,if_pos br]at hw;obtain ⟨y,y1,y2⟩:=M.rel.stk i w hw;exact ⟨y,by rw[if_neg (by omega),if_neg (by omega)];exact y1,y2⟩
  ·next br=>
   rw[zzx]at hw;have aj:=(zyL.1 hw).1;obtain ⟨y,y1,y2⟩:=M.rel.stk _ w hw;refine ⟨y,?_,y2⟩;rw[if_neg (by omega),if_pos (by omega)];unfold Sto.words;rw[zzy,if_pos (by omega),zzx];rw[<-y1];congr 1;omega
 ·exact zaS.none _ _ _
theorem zjw(M:MR sl hf m A φ){d:Nat}{r:Except Nat Int}(h:A.zdW d=some r):m.numberAt d=some r:=by
 unfold Ma.zdW at h;split at h
 ·next hd=>
  obtain ⟨w,x,w1,w2,w3⟩:=M.rel.word hd;rw[w1]at h;cases w with
  |mk k b=>simp at h
  |ad a=>
   simp only at h;have key:∀ nd,A.h[a]?=some nd->zaV nd=false->∃ p:Nat,x=p/\m.s.ws[p]?=some (hdr nd)/\0<=hdr nd/\hdr nd<9223372036854775808/\∀ v,nd=.num v->m.s.ws[p+1]?=some v:=fun nd hn hf=>by
    obtain ⟨p,p1,p2,p3,p4,p5⟩:=M.rel.zfo w3 hn hf;obtain ⟨r1,r2⟩:=zde (M.rel.ok a nd hn);exact ⟨p,p1,p5.1,r1,r2,p5.2.1⟩
   unfold MSt.numberAt;rw[w2];simp only;cases hn:A.h[a]? with
   |none=>rw[hn]at h;simp at h
   |some nd=>
    rw[hn]at h;cases nd with
    |num v=>
     cases h;obtain ⟨p,rfl,p2,p3,p4,p5⟩:=key _ hn rfl;rw[if_neg (by omega),zy2,p2];simp only;rw[if_neg (by omega),if_pos (by simp[hdr]),p5 v rfl]
    |data t fs=>
     cases h;obtain ⟨p,rfl,p2,p3,p4,p5⟩:=key _ hn rfl;rw[if_neg (by omega),zy2,p2];simp only;rw[if_neg (by omega),if_neg (by simp only[hdr];rw[zbx (by omega)];omega)]
    |clo t fs=>
     cases h;obtain ⟨p,rfl,p2,p3,p4,p5⟩:=key _ hn rfl;rw[if_neg (by omega),zy2,p2];simp only;rw[if_neg (by omega),if_neg (by simp only[hdr];rw[zbx (by omega)];omega)]
    |busy=>simp at h
    |fwd b=>simp at h
 ·cases h
theorem zpD(M:MR sl hf m A φ):zaS sl hf ((m.numberAt 0).map fun q=>q.map fun _=>m) ((A.zdW 0).map fun q=>q.map fun _=>A):=by
 cases h:A.zdW 0 with
 |none=>exact zaS.none _ _ _
 |some r=>
  rw[zjw M h];cases r with
  |error k=>exact zaS.error _ _ _
  |ok v=>exact zaS.ok M
theorem zvd(M:MR sl hf m A φ)(sg:ByteArray)(l r:Int):zaS sl hf (m.calc sg l r) (A.calc hf sg l r):=by
 unfold MSt.calc Ma.calc;split
 ·exact zb2 M _
 ·split
  ·exact zb2 M _
  ·split
   ·exact zb2 M _
   ·split
    ·split
     ·exact zaS.error _ _ _
     ·exact zb2 M _
    ·split
     ·exact zoP M _
     ·split
      ·exact zoP M _
      ·exact zaS.none _ _ _
theorem zpo(M:MR sl hf m A φ)(sg:ByteArray):zaS sl hf (m.compute sg) (A.compute hf sg):=by
 unfold MSt.compute Ma.compute;cases h0:A.zdW 0 with
 |none=>exact zaS.none _ _ _
 |some r0=>
  rw[zjw M h0];cases r0 with
  |error k=>exact zaS.error _ _ _
  |ok r=>
   simp only;cases h1:A.zdW 1 with
   |none=>exact zaS.none _ _ _
   |some r1=>
    rw[zjw M h1];cases r1 with
    |error k=>exact zaS.error _ _ _
    |ok l=>
     simp only;have hl:2<=A.st.length:=by
      unfold Ma.zdW at h1;split at h1
      ·omega
      ·cases h1
     obtain ⟨q1,q2⟩:=zhQ M.rel hl;rw[q1];exact zvd (m:={ m with s:={ m.s with top:=m.s.top+2 } }) (A:={ A with st:=zcE A.st 2 }) ⟨q2,M.half,M.fuel,M.next,M.below,M.vi⟩ sg l r
variable {sl:List Nat} {hf:Nat} {m:MSt} {A:Ma} {φ:Nat->Option Nat}
variable {st:List Wd}
variable {a:Nat}
theorem Rel.zi2{s:Sto}{fc:List Int}{fns:List Nat}(R:Rel s fc h st fns φ){p:Nat}(hp:φ a=some p)(hn:h[a]?=some nd)(hf:zaV nd=false):s.low<=p/\p+sz nd<=s.free/\AtC s.ws (Rf φ h) p nd:=by
 obtain ⟨q,e,h1,h2,h3,h4⟩:=R.zfo (x:=p) ⟨p,rfl,.inl hp⟩ hn hf;have:q=p:=by omega
 subst this;exact ⟨h2,h3,h4⟩
theorem zgn{w:Wd}(h:st.getLast?=some w):0<st.length/\st[st.length-1]?=some w:=by
 rw[List.getLast?_eq_getElem?]at h;exact ⟨by have:=(zyL.1 h).1;omega,h⟩
theorem Rel.zdB{s:Sto}{fc:List Int}{fns:List Nat}(R:Rel s fc h st fns φ)(ht:st.getLast?=some (.ad a))(hn:h[a]?=some nd)(hf:zaV nd=false):∃ p,φ a=some p/\s.nodeAt 0=some (p,hdr nd)/\s.ws[s.top]?=some (p:Int)/\s.low<=p/\p+sz nd<=s.free/\AtC s.ws (Rf φ h) p nd:=by
 obtain ⟨h0,h1⟩:=zgn ht;obtain ⟨w,x,w1,w2,w3⟩:=R.word (d:=0) h0;rw[zAl,h1]at w1;cases w1;obtain ⟨p,rfl,p2,p3,p4,p5⟩:=R.zfo w3 hn hf;rw[zzO]at w2;refine ⟨p,p2,?_,w2,p3,p4,p5⟩;unfold Sto.nodeAt;rw[zzO,w2];simp only;rw[if_neg (by omega),zy2,p5.head (R.ok a nd hn) rfl];rfl
theorem zi9(h:zo6 nd)(hf:zaV nd=false):cnt (hdr nd)=(zdd nd).length:=by
 unfold cnt;exact ztf h hf
theorem zqC{nd':Nd}(hn:h[a]?=some nd)(hf:zaV nd=false):∀ (c b:Nat),h[c]?=some (.fwd b)->(h.set a nd')[c]?=some (.fwd b):=by
 intro c b hb;rw[zyV,if_neg (fun e=>by subst e;rw[hn]at hb;cases hb;simp[zaV]at hf)];exact hb
theorem zw3{nd':Nd}(hv:VI sl h)(hn:h[a]?=some nd)(_hf:zaV nd=false)(h1:zaV nd'=false)(h2:val sl nd->val sl nd'):VI sl (h.set a nd'):=by
 have aU:=(zyL.1 hn).1;intro c b hb;rw[zyV]at hb;by_cases e0:a=c
 ·rw[if_pos e0,if_pos aU]at hb;cases hb;simp[zaV]at h1
 ·rw[if_neg e0]at hb;obtain ⟨n,g1,g2⟩:=hv c b hb;by_cases e:a=b
  ·subst e;rw[hn]at g1;cases g1;exact ⟨nd',by rw[zyV,if_pos rfl,if_pos aU],h2 g2⟩
  ·exact ⟨n,by rw[zyV,if_neg e];exact g1,g2⟩
theorem zvw(M:MR sl hf m A φ)(k c:Nat):zaS sl hf (m.zln k c) (A.fill k c):=by
 unfold Ma.fill;cases hs:A.slot k with
 |none=>exact zaS.none _ _ _
 |some w=>
  cases w with
  |mk _ _=>exact zaS.none _ _ _
  |ad a=>
   simp only;cases hn:A.h[a]? with
   |none=>exact zaS.none _ _ _
   |some nd=>
    cases nd with
    |clo b fs=>
     simp only;split
     ·next bZ=>
      cases ht:zlT A.st c with
      |none=>exact zaS.none _ _ _
      |some gs=>
       obtain ⟨i,x,s1,s2,s3,s4,s5⟩:=zqU M hs;obtain ⟨p,rfl,p2,p3,p4,p5⟩:=M.rel.zfo s3 hn rfl;obtain ⟨t1,t2,t3⟩:=ziX ht;obtain ⟨w1,w2⟩:=M.rel.zlT ht;have bU:=M.rel.ok a _ hn;have fg:=M.rel.tp;have gS:=M.rel.hi;have iY:=M.rel.ft;have cT:sz (.clo b fs)=1+c:=by simp[sz,bZ]
       rw[cT]at p4;have iG:cnt (hdr (.clo b fs))=c:=by rw[zi9 bU rfl];exact bZ
       unfold MSt.zln;rw[s1];simp only;rw[s2];simp only;rw[if_neg (by omega),zy2,p5.head bU rfl];simp only;rw[if_pos ⟨iG,by omega,by omega,by omega⟩];have aY:∀ j,(Go.splice m.s.ws (p+1) (m.s.words m.s.top c))[j]?=if j<p+1 then m.s.ws[j]? else if j<p+1+c then (m.s.words m.s.top c)[j-(p+1)]? else m.s.ws[j]?:=fun j=>by
        rw[zbu _ _ _ _ (by rw[w1];omega),w1]
       have R2:=M.rel.zxM (ws':=Go.splice m.s.ws (p+1) (m.s.words m.s.top c)) (nd':=.clo b gs) p2 hn rfl ⟨bU.1,by rw[t2];exact bZ ▸ bU.2⟩ (by simp[sz,bZ,t2]) (zzM _ _ _ (by rw[w1];omega))
        (fun j hj=>by rw[cT]at hj;rw[aY];by_cases h1:j<p+1;rw[if_pos h1];rw[if_neg h1,if_neg (by omega)])
        (.inr ⟨rfl,by rw[aY,if_pos (by omega),p5.1];simp[hdr,bZ,t2],fun v hv=>(by cases hv),fun i f hf'=>by
         obtain ⟨y,y1,y2⟩:=w2 i f hf';have:=(zyL.1 y1).1;exact ⟨y,by rw[aY,if_neg (by omega),if_pos (by omega),show p+1+i-(p+1)=i by omega];exact y1,y2.mono (fun _ _ z=>z) (zqC hn rfl)⟩⟩)
        (fun e=>by simp[zaV]at e) (fun b' e=>by cases e)
       obtain ⟨q1,q2⟩:=zhQ R2 t1;unfold MSt.put;rw[q1];refine zaS.ok ⟨q2,M.half,M.fuel,M.next,M.below,zw3 M.vi hn rfl rfl (fun hv=>?_)⟩;obtain ⟨n,n1,n2⟩:=hv;exact ⟨n,n1,by rw[t2];rw[bZ]at n2;exact n2⟩
     ·exact zaS.none _ _ _
    |_=>exact zaS.none _ _ _
theorem zsF(M:MR sl hf m A φ){b n:Nat}{fs:List Nat}(ht:A.st.getLast?=some (.ad a))(hn:A.h[a]?=some (.clo b fs))(hb:sl[b]?=some n)(hl:n=fs.length):zaS sl hf m.zdy (A.zdy hf a b fs):=by
 have bU:=M.rel.ok a _ hn;obtain ⟨p,p1,p2,p3,p4,p5,p6⟩:=M.rel.zdB ht hn rfl;unfold MSt.zdy;rw[p2];simp only;have hc:cnt (hdr (.clo b fs))=fs.length:=zi9 bU rfl;rw[hc];refine zcS M (fun m1 φ1 M1 hr ho=>?_);obtain ⟨q,q1,q2,q3,q4,q5,q6⟩:=M1.rel.zdB ht hn rfl;obtain ⟨u1,u2⟩:=zc5 M1.rel (x:=Mk 0 0) (w:=.mk 0 0) (by omega) rfl;obtain ⟨s2,e2⟩:∃ s2:Sto,s2={ m1.s with top:=m1.s.top-1,ws:=m1.s.ws.set (m1.s.top-1) (Mk 0 0) }:=⟨_,rfl⟩;rw[<-e2]at u1 u2;have g2:s2.free=m1.s.free/\s2.top=m1.s.top-1:=by rw[e2];exact ⟨rfl,rfl⟩
 obtain ⟨a1,a2,a3⟩:=u2.zi2 q1 hn rfl;have cT:sz (.clo b fs)=1+fs.length:=rfl;have ss:=u2.hi;have se:=u2.ft;have tu:=u2.tp;obtain ⟨f1,f2⟩:=a3.fields (by simp only[zdd];omega);simp only[zdd]at f1 f2;obtain ⟨v1,v2⟩:=zgq u2 (fs:=fs) f1 (by rw[f1];omega) f2;obtain ⟨s3,e3⟩:∃ s3:Sto,s3={ s2 with top:=s2.top-(s2.words (q+1) fs.length).length,ws:=Go.splice s2.ws (s2.top-(s2.words (q+1) fs.length).length) (s2.words (q+1) fs.length) }:=⟨_,rfl⟩;rw[<-e3]at v1 v2;have h3:s3.half=m1.s.half:=by rw[e3,e2]
 obtain ⟨b1,b2,b3⟩:=v2.zi2 q1 hn rfl;have p7:=(zyL.1 b3.1).1;have R4:=v2.zxM (ws':=s3.ws.set q (Hd 3 0 0)) (nd':=.busy) q1 hn rfl trivial (by simp[sz]) (by simp) (fun j hj=>by rw[zyV,if_neg (by omega)])
  (.inr ⟨rfl,(by rw[zyV,if_pos rfl,if_pos p7];rfl),fun v hv=>(by cases hv),fun i f hf'=>(by simp[zdd]at hf')⟩) (fun e=>by simp[zaV]at e) (fun b' e=>by cases e)
 unfold MSt.begun;rw[q2];simp only;rw[u1];simp only;rw[a3.head bU rfl];simp only;rw[hc,if_neg (by omega),v1];simp only;rw[b3.head bU rfl];simp only[zzP];refine zaS.ok (φ:=φ1) ⟨R4,h3.trans M1.half,M1.fuel,?_,M1.below,zw3 M1.vi hn rfl rfl (fun hv=>?_)⟩
 ·simp only[hdr];exact zdE (by omega) bU.2
 ·obtain ⟨n',n1,n2⟩:=hv;rw[hb]at n1;cases n1;omega
theorem zrg(M:MR sl hf m A φ)(zao:List (Nat × Nat × Nat)):zaS sl hf (m.choose zao) (A.choose hf zao):=by
 unfold Ma.choose;cases ht:A.st.getLast? with
 |none=>exact zaS.none _ _ _
 |some w=>
  cases w with
  |mk _ _=>exact zaS.none _ _ _
  |ad a=>
   simp only;cases hn:A.h[a]? with
   |none=>exact zaS.none _ _ _
   |some nd=>
    cases nd with
    |num v=>
     obtain ⟨p,p1,p2,_⟩:=M.rel.zdB ht hn rfl;unfold MSt.choose;rw[p2];simp only;rw[if_neg (by simp[hdr])];exact zaS.error _ _ _
    |clo b fs=>
     obtain ⟨p,p1,p2,_⟩:=M.rel.zdB ht hn rfl;unfold MSt.choose;rw[p2];simp only;rw[if_neg (by simp only[hdr];rw[zbx (by omega)];omega)];exact zaS.error _ _ _
    |data t fs=>
     obtain ⟨p,p1,p2,_⟩:=M.rel.zdB ht hn rfl;have bU:=M.rel.ok a _ hn;have hk:hdr (.data t fs)%16=1:=by simp only[hdr];exact zbx (by omega)
     have hw:hdr (.data t fs)/65536=(t:Int):=by simp only[hdr];exact zdE (by omega) bU.2
     have hc:cnt (hdr (.data t fs))=fs.length:=zi9 bU rfl;unfold MSt.choose;rw[p2];simp only;rw[if_pos hk];clear p1
     induction zao with
     |nil=>exact zaS.error _ _ _
     |cons arm l ih=>
      obtain ⟨u,c,b⟩:=arm;rw[MSt.zcc,Ma.zcc,hw];by_cases hu:u=t
      ·rw[if_pos (by omega),if_pos hu];unfold MSt.split;rw[p2];simp only;rw[hc];by_cases uH:c=fs.length
       ·rw[if_pos uH,if_pos uH];refine zcS M (fun m1 φ1 M1 hr ho=>?_);obtain ⟨q,q1,q2,q3,q4,q5,q6⟩:=M1.rel.zdB ht hn rfl;obtain ⟨g0,_⟩:=zgn ht;obtain ⟨u1,u2⟩:=zhQ M1.rel (c:=1) (by omega);obtain ⟨a1,a2,a3⟩:=u2.zi2 q1 hn rfl;have cT:sz (.data t fs)=1+fs.length:=rfl;have ss:=u2.hi;have se:=u2.ft;have tu:=u2.tp;simp only at a2 ss se tu;obtain ⟨f1,f2⟩:=a3.fields (s:={ m1.s with top:=m1.s.top+1 }) (by simp only[zdd];omega);obtain ⟨v1,v2⟩:=zgq u2 (fs:=fs) f1 (by rw[f1];simp only[zdd];omega) f2;unfold MSt.zqM;rw[q2];simp only;rw[u1];simp only;rw[hc,if_neg (by omega)];simp only[zdd]at v1;rw[v1];simp only[zzP];exact zaS.ok (φ:=φ1) ⟨v2,M1.half,M1.fuel,rfl,M1.below,M1.vi⟩
       ·rw[if_neg uH,if_neg uH];exact zaS.error _ _ _
      ·rw[if_neg (by omega),if_neg hu];exact ih
    |_=>exact zaS.none _ _ _
end Ab
end Go.Proofs.YtgahgkddaljmkaaGreatDoor
