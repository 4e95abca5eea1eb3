/- Cmp40 .. Cmp43 -/
import Derived.Test.YtgahgkddaljmkaaGreatDoorW26
set_option maxRecDepth 100000
set_option maxHeartbeats 4000000
namespace Go.Proofs.YtgahgkddaljmkaaGreatDoor
open Tryz
namespace Cp
theorem zw2(fns:List Nm)(q:Bs)(x:Nm):∃ i,q.use fns x=⟨q.blocks,q.zac++[[]],q.code++[i]⟩:=by
 unfold Bs.use Bs.push;split
 ·exact ⟨_,rfl⟩
 ·exact ⟨_,rfl⟩
theorem zuJ(fns:List Nm):∀ (l:List Nm) (q:Bs),∃ c,l.foldl (Bs.use fns) q=⟨q.blocks,q.zac++List.replicate l.length [],q.code++c⟩/\c.length=l.length
 |[],q=>⟨[],by simp,rfl⟩
 |x::l,q=>by
  obtain ⟨i,h1⟩:=zw2 fns q x;obtain ⟨c,h2,h3⟩:=zuJ fns l (q.use fns x);refine ⟨i::c,?_,by simp[h3]⟩;rw[zz2,h2,h1];simp[zz4]
theorem zd6(fns:List Nm)(q:Bs)(l:List Nm):∃ c,q.zak fns l=⟨q.blocks,q.zac++List.replicate l.length [],q.code++c⟩/\c.length=l.length:=by
 obtain ⟨c,h1,h2⟩:=zuJ fns l.reverse q;refine ⟨c,?_,by simpa using h2⟩;unfold Bs.zak;rw[h1];simp
theorem zlX(fns:List Nm)(q:Bs)(l:List Nm):∃ c,(q.zak fns l).drop l.length=⟨q.blocks,q.zac,q.code++c⟩/\c.length=l.length:=by
 obtain ⟨c,h1,h2⟩:=zd6 fns q l;refine ⟨c,?_,h2⟩;rw[h1];unfold Bs.drop;simp
theorem zfr(wk:Th.Ex->Nat->Bs->Bs)(fr:Th.Ex->List Nm)(b:Bs)(e:Th.Ex):∃ bl,zal wk fr b e=(⟨bl,b.zac,b.code⟩,(zal wk fr b e).2.1,zai b.zac (fr e)):=by
 refine ⟨(zal wk fr b e).1.blocks,?_⟩;unfold zal Bs.zhD;split
 ·split <;> rfl
 ·split <;> rfl
theorem zpz(wk:Th.Ex->Nat->Bs->Bs)(fr:Th.Ex->List Nm)(fns:List Nm)(b:Bs)(e:Th.Ex):∃ bl c,zaI wk fr fns b e=⟨bl,b.zac++[[]],b.code++c⟩/\1<=c.length/\c.length<=(fr e).length+1/\(bl=b.blocks\/e.kind≠2/\e.kind≠1/\bl=(zal wk fr b e).1.blocks):=by
 unfold zaI;split
 ·obtain ⟨i,h⟩:=zw2 fns b e.tok.s;exact ⟨_,_,h,by simp,by simp,.inl rfl⟩
 ·next h2=>
  split
  ·exact ⟨_,_,rfl,by simp,by simp,.inl rfl⟩
  ·next h1=>
   split
   ·exact ⟨_,_,rfl,by simp,by simp,.inl rfl⟩
   ·obtain ⟨bl,h⟩:=zfr wk fr b e;obtain ⟨c,h3,h4⟩:=zlX fns ⟨bl,b.zac,b.code⟩ (zai b.zac (fr e));have h5:=zbg b.zac (fr e);refine ⟨bl,c++[.close (zal wk fr b e).2.1 (zai b.zac (fr e)).length],?_,by simp,by simp;omega,.inr ⟨h2,h1,by rw[h]⟩⟩;rw[h];simp only;rw[h3];simp[Bs.push]
theorem zbj{f:Th.Ex->Nat}{x:Th.Ex}:∀ {l:List Th.Ex},x∈l->f x<=(l.map f).sum
 |y::l,h=>by
  rw[zza,zzd];rcases zzo.1 h with rfl|h
  ·omega
  ·have:=zbj (f:=f) h;omega
variable {n:Nat}
variable {e:Th.Ex}
theorem Dp.zgZ{k:Th.Ex}(h:Dp n e)(hk:k∈e.kids):Cp.wt n k+1<=Cp.wt n e:=by
 have:=zbj (f:=Cp.wt n) hk;rw[h.wt];omega
theorem zeY{N:Nat}:∀ (m:Nat) (e:Th.Ex),Dp N e->wt N (spread m e).1+((spread m e).2.map (wt N)).sum+(spread m e).2.length<=wt N e/\Dp N (spread m e).1/\∀ x∈(spread m e).2,Dp N x
 |0,e,h=>by simp[spread,h]
 |m+1,e,h=>by
  rw[spread];split
  ·next f a hk=>
   have h1:=h.kid (k:=f) (by simp[hk]);have h2:=h.kid (k:=a) (by simp[hk]);have hw:=h.wt;rw[hk]at hw;simp at hw;split
   ·obtain ⟨i1,i2,i3⟩:=zeY m f h1;refine ⟨by simp;omega,i2,fun x hx=>?_⟩;rcases zzi.1 hx with hx|hx
    ·exact i3 x hx
    ·rw[zze.1 hx];exact h2
   ·exact ⟨by simp;omega,h1,by simp[h2]⟩
  ·simp[h]
theorem zhU{m:Nat}{f a:Th.Ex}(hk:e.kids=[f,a]):1<=(spread (m+1) e).2.length:=by
 rw[spread,hk];simp only;split
 ·simp
 ·simp
def Cost (M N:Nat) (e:Th.Ex) (q q':Bs):Prop:=q'.code.length<=q.code.length+(M+8)*wt N e/\q'.zac.length<=q.zac.length+(M+8)*wt N e/\q'.blocks.length+1<=q.blocks.length+8*wt N e
def zb8 (M N:Nat) (wk:Th.Ex->Nat->Bs->Bs):Prop:=∀ e below q,Dp N e->wt N e<=M->Cost M N e q (wk e below q)
variable {M N:Nat}
variable {wk:Th.Ex->Nat->Bs->Bs}
theorem zh7(hw:zb8 M N wk)(b:Bs)(hd:Dp N e)(hm:wt N e<=M):(zal wk (free N) b e).1.blocks.length<=b.blocks.length+8*wt N e:=by
 have hp:=hd.pos;unfold zal Bs.zhD;by_cases h4:e.kind=4
 ·obtain ⟨_,d,hk⟩:=hd.zea.k4 h4;have h1:=hd.kid (k:=d) (by simp[hk]);have h2:=hd.zgZ (k:=d) (by simp[hk]);simp only[h4,if_true,hk];have h3:=(hw d 0 ⟨b.blocks,(zai b.zac (free N e)++Th.texts e.names).reverse,[]⟩ h1 (by omega)).2.2;simp only[zyT,zy0];simp only at h3;omega
 ·by_cases h3:e.kind=3
  ·simp only[h3,if_true,Bs.write];simp;omega
  ·simp only[h4,h3,if_false];have h5:=(hw e 0 ⟨b.blocks,(zai b.zac (free N e)).reverse,[]⟩ hd hm).2.2;simp only[zyT,zy0];simp only at h5;omega
theorem znR(hw:zb8 M N wk)(fns:List Nm)(b:Bs)(hd:Dp N e)(hm:wt N e<=M):(zaI wk (free N) fns b e).blocks.length<=b.blocks.length+8*wt N e/\(zaI wk (free N) fns b e).zac=b.zac++[[]]/\(zaI wk (free N) fns b e).code.length<=b.code.length+(M+1):=by
 obtain ⟨bl,c,h1,_,h2,h3⟩:=zpz wk (free N) fns b e;have hl:=zaZ N e;rw[h1];refine ⟨?_,rfl,by simp;omega⟩;rcases h3 with h3|⟨_,_,h3⟩
 ·rw[h3];simp
 ·rw[h3];exact zh7 hw b hd hm
theorem zcf{M N:Nat}{wk:Th.Ex->Nat->Bs->Bs}(hw:zb8 M N wk)(fns:List Nm):∀ (l:List Th.Ex) (b:Bs),(∀ x∈l,Dp N x/\wt N x<=M) ->
  (l.foldl (zaI wk (free N) fns) b).blocks.length<=b.blocks.length+8*(l.map (wt N)).sum/\(l.foldl (zaI wk (free N) fns) b).zac=b.zac++List.replicate l.length []/\(l.foldl (zaI wk (free N) fns) b).code.length<=b.code.length+(M+1)*l.length
 |[],b,_=>by simp
 |x::l,b,h=>by
  obtain ⟨a1,a2,a3⟩:=znR hw fns b (h x (by simp)).1 (h x (by simp)).2;obtain ⟨b1,b2,b3⟩:=zcf hw fns l (zaI wk (free N) fns b x) (fun y hy=>h y (by simp[hy]));rw[zz2];refine ⟨?_,?_,?_⟩
  ·rw[zza,zzd];omega
  ·rw[b2,a2];simp[zz4]
  ·rw[zy8,zzI];omega
theorem zg2{M N:Nat}{wk:Th.Ex->Nat->Bs->Bs}(hw:zb8 M N wk):∀ (l:List Th.Ex) (b:Bs) (a:List (List Nm)),(∀ x∈l,Dp N x/\wt N x<=M)->(∀ x∈a,x.length<=M) ->
  (makeAll wk (free N) l b a).1.blocks.length<=b.blocks.length+8*(l.map (wt N)).sum/\(makeAll wk (free N) l b a).1.zac=b.zac/\(makeAll wk (free N) l b a).1.code.length=b.code.length+l.length/\(makeAll wk (free N) l b a).2=a++l.map (fun p=>zai b.zac (free N p))/\∀ x∈(makeAll wk (free N) l b a).2,x.length<=M
 |[],b,a,_,ha=>by simp[makeAll];exact ha
 |p::l,b,a,h,ha=>by
  obtain ⟨bl,hc⟩:=zfr wk (free N) b p;have h1:=zh7 hw b (h p (by simp)).1 (h p (by simp)).2;have h2:=(h p (by simp)).2;have hl:=zyR (zbg b.zac (free N p)) (zaZ N p);obtain ⟨b1,b2,b3,b4,b5⟩:=zg2 hw l ((zal wk (free N) b p).1.write (.hold (zal wk (free N) b p).2.1 (zal wk (free N) b p).2.2.length)) (a++[(zal wk (free N) b p).2.2]) (fun y hy=>h y (by simp[hy])) (by
   intro x hx;rcases zzi.1 hx with hx|hx
   ·exact ha x hx
   ·rw[zze.1 hx,hc];simp only;omega)
  have hs:(zal wk (free N) b p).1.zac=b.zac:=by rw[hc]
  have hk:(zal wk (free N) b p).1.code=b.code:=by rw[hc]
  have hn:(zal wk (free N) b p).2.2=zai b.zac (free N p):=by rw[hc]
  rw[makeAll];simp only[Bs.write]at b1 b2 b3 b4 b5 ⊢;refine ⟨?_,?_,?_,?_,b5⟩
  ·rw[zza,zzd];omega
  ·rw[b2,hs]
  ·rw[b3,hk];simp;omega
  ·rw[b4,hs,hn];simp
theorem zje{M:Nat}(fns:List Nm):∀ (l:List (List Nm)) (i:Nat) (b:Bs),(∀ x∈l,x.length<=M) ->
  (zbf fns i l b).blocks=b.blocks/\(zbf fns i l b).zac=b.zac/\(zbf fns i l b).code.length<=b.code.length+(M+1)*l.length
 |[],_,b,_=>by simp[zbf]
 |x::l,i,b,h=>by
  obtain ⟨c,h1,h2⟩:=zlX fns b x;have hx:=h x (by simp);obtain ⟨b1,b2,b3⟩:=zje fns l (i+1) (((b.zak fns x).drop x.length).write (.fill i x.length)) (fun y hy=>h y (by simp[hy]));rw[zbf];simp only[Bs.write,h1]at b1 b2 b3 ⊢;refine ⟨b1,b2,?_⟩;simp only[zyT,zy8,zzm]at b3 ⊢;rw[zzI];omega
theorem zeH{M N:Nat}{wk:Th.Ex->Nat->Bs->Bs}(hw:zb8 M N wk)(names:List Nm):∀ (az:List (Nat × List Th.Tok)) (ds:List Th.Ex) (b:Bs) (l:List (Nat × Nat × Nat)),(∀ x∈ds,Dp N x/\wt N x<=M) ->
  (armsOf wk names az ds b l).1.blocks.length<=b.blocks.length+8*(ds.map (wt N)).sum/\(armsOf wk names az ds b l).1.zac=b.zac/\(armsOf wk names az ds b l).1.code=b.code
 |[],ds,b,l,_=>by simp[armsOf]
 |_::_,[],b,l,_=>by simp[armsOf]
 |a::az,d::ds,b,l,h=>by
  have h1:=(hw d 0 ⟨b.blocks,(Th.texts a.2++names).reverse,[]⟩ (h d (by simp)).1 (h d (by simp)).2).2.2;obtain ⟨b1,b2,b3⟩:=zeH hw names az ds (b.zhD (Th.texts a.2++names).reverse (wk d 0)).1 (l++[(a.1,a.2.length,(b.zhD (Th.texts a.2++names).reverse (wk d 0)).2)]) (fun y hy=>h y (by simp[hy]));rw[armsOf];refine ⟨?_,b2,b3⟩;rw[zza,zzd];simp only[Bs.zhD,zyT,zy0]at b1 h1 ⊢;omega
theorem zrZ{α:Type}(l xs:List α)(y:α):Go.splice (l++List.replicate xs.length y) l.length xs=l++xs:=by
 unfold Go.splice;simp
theorem zcs(l:List Th.Tok):(Th.texts l).length=l.length:=by simp[Th.texts]
def zdq (wk:Th.Ex->Nat->Bs->Bs) (fr:Th.Ex->List Nm) (fns:List Nm) (e:Th.Ex) (ps:List Th.Ex) (b:Bs):Bs:=
 if e.kind=8 then
  let r:=makeAll wk fr ps { b with zac:=b.zac++Th.texts e.names } []
  zbf fns b.zac.length r.2 r.1
 else
  let b1:=ps.foldl (zaI wk fr fns) b
  { b1 with zac:=Go.splice b1.zac b.zac.length (Th.texts e.names) }
variable {d:Th.Ex}
theorem zei{fr:Th.Ex->List Nm}{fns:List Nm}{ps:List Th.Ex}(hk:e.kids=d::ps)(b:Bs):zkD wk fr fns e b=wk d 0 (zdq wk fr fns e ps b):=by
 unfold zkD zdq;rw[hk];simp only;split
 ·rfl
 ·rfl
theorem zdU(hw:zb8 M N wk)(fns:List Nm){ps:List Th.Ex}(hk:e.kids=d::ps)(hl:ps.length=e.names.length)(b:Bs)(hd:Dp N e)(hm:wt N e<=M):
  (zdq wk (free N) fns e ps b).blocks.length<=b.blocks.length+8*(ps.map (wt N)).sum/\(zdq wk (free N) fns e ps b).zac=b.zac++Th.texts e.names/\(zdq wk (free N) fns e ps b).code.length<=b.code.length+(M+8)*e.names.length:=by
 have sQ:∀ x∈ps,Dp N x/\wt N x<=M:=fun x hx=>⟨hd.kid (by simp[hk,hx]),by have:=hd.zgZ (k:=x) (by simp[hk,hx]);omega⟩
 unfold zdq;have hmul:(M+8)*e.names.length=(M+1)*e.names.length+7*e.names.length:=by rw[<-Nat.add_mul]
 split
 ·obtain ⟨a1,a2,a3,a4,a5⟩:=zg2 hw ps { b with zac:=b.zac++Th.texts e.names } [] sQ (by simp);obtain ⟨b1,b2,b3⟩:=zje (M:=M) fns (makeAll wk (free N) ps { b with zac:=b.zac++Th.texts e.names } []).2 b.zac.length (makeAll wk (free N) ps { b with zac:=b.zac++Th.texts e.names } []).1 a5;simp only;refine ⟨by rw[b1];exact a1,by rw[b2,a2],?_⟩;have hlen:(makeAll wk (free N) ps { b with zac:=b.zac++Th.texts e.names } []).2.length=e.names.length:=by rw[a4];simp[hl]
  rw[hlen]at b3;rw[hl]at a3;simp only at a3;omega
 ·obtain ⟨a1,a2,a3⟩:=zcf hw fns ps b sQ;simp only;refine ⟨a1,?_,?_⟩
  ·rw[a2,hl,<-zcs e.names,zrZ]
  ·rw[hl]at a3;omega
def zbo (q:Bs) (names:List Nm) (e:Th.Ex):Bs:=⟨q.blocks++[(2,[.comp ⟨e.tok.s.toArray⟩,.enter])],([]::names).reverse++[[]]++[[]],[.zbX,.push (([]::names).reverse.length-1),.wait q.blocks.length]⟩
theorem zh3{fr:Th.Ex->List Nm}(fns:List Nm)(n below:Nat)(q:Bs){l r:Th.Ex}(h6:e.kind=6)(hk:e.kids=[l,r]):work fr fns (n+1) e below q =
  work fr fns n l (below+(zai q.zac (fr r)).length+1) ((Bs.zak fns ⟨(work fr fns n r 2 (zbo q (zai q.zac (fr r)) e)).blocks++[((zai q.zac (fr r)).length+1,(work fr fns n r 2 (zbo q (zai q.zac (fr r)) e)).code)],q.zac,q.code⟩ (zai q.zac (fr r))).push (.wait (work fr fns n r 2 (zbo q (zai q.zac (fr r)) e)).blocks.length)):=by
 have hl:([]::zai q.zac (fr r)).reverse.length=(zai q.zac (fr r)).length+1:=by simp
 rw[work,if_neg (by omega),if_pos h6,hk,<-hl];rfl
theorem zfk{fr:Th.Ex->List Nm}(fns:List Nm)(n below:Nat)(q:Bs){s:Th.Ex}{ds:List Th.Ex}(h9:e.kind=9)(hk:e.kids=s::ds){names:List Nm}(hn:names=zai q.zac (zas fr e.zao ds [])){ao:Bs × List (Nat × Nat × Nat)}(ha:ao=armsOf (work fr fns n) names e.zao ds ⟨q.blocks,([]::names).reverse,[]⟩ []):work fr fns (n+1) e below q =
  work fr fns n s (below+names.length+1) ((Bs.zak fns ⟨ao.1.blocks++[(names.length+1,ao.1.code++[.choose ao.2])],q.zac,q.code⟩ names).push (.wait ao.1.blocks.length)):=by
 have hl:([]::names).reverse.length=names.length+1:=by simp
 rw[work,if_neg (by omega),if_neg (by omega),if_pos h9,hk,<-hl,ha,hn];rfl
theorem zaK(M N:Nat)(fns:List Nm):∀ n:Nat,zb8 M N (work (free N) fns n)
 |0=>fun e below q hd hm=>by
  have:=hd.pos;rw[work];exact ⟨by omega,by omega,by omega⟩
 |n+1=>fun e below q hd hm=>by
  have ih:=zaK M N fns n;have hp:=hd.pos;have dj:=hd.wt;have hlen:=zaZ N e;have Ao:=zbg q.zac (free N e);have hK:M+8<=(M+8)*wt N e:=zzU _ hp;have eE:=hd.zea;have fN:=eE.lo;have gS:=eE.hi;unfold Cost;by_cases h5:e.kind=5
  ·obtain ⟨f,a,hk⟩:=eE.k5 (.inl h5);rw[work];simp only[h5,if_true];obtain ⟨s1,s2,s3⟩:=zeY (n+1) e hd;have s4:=zhU (m:=n) hk;generalize spread (n+1) e=s at s1 s2 s3 s4 ⊢;obtain ⟨fe,es⟩:=s;simp only at s1 s2 s3 s4 ⊢;have xx:∀ x∈es.reverse,Dp N x/\wt N x<=M:=fun x hx=>⟨s3 x (by simpa using hx),by have:=zbj (f:=wt N) (x:=x) (l:=es) (by simpa using hx);omega⟩
   obtain ⟨a1,a2,a3⟩:=zcf ih fns es.reverse q xx;generalize es.reverse.foldl (zaI (work (free N) fns n) (free N) fns) q=b1 at a1 a2 a3 ⊢;obtain ⟨c1,c2,c3⟩:=ih fe (below+es.length+1) (b1.push (.zbF es.length)) s2 (by omega);simp only[Bs.push,zyT,zy0]at c1 c2 c3 ⊢;have dh:(es.reverse.map (wt N)).sum=(es.map (wt N)).sum:=by rw[List.map_reverse,List.sum_reverse]
   rw[dh]at a1;have Du:b1.zac.length=q.zac.length+es.length:=by rw[a2];simp
   rw[zy4]at a3;have hmul:(M+8)*(wt N fe+es.length+1)<=(M+8)*wt N e:=zzp _ (by
    have:1<=(es.map (wt N)).sum:=by
     cases es with
     |nil=>simp at s4
     |cons x es=>have:=(s3 x (by simp)).pos;simp;omega
    omega)
   rw[zzI,zzI]at hmul;have jo:(M+1)*es.length<=(M+8)*es.length:=Nat.mul_le_mul_right _ (by omega);have sH:es.length<=(M+8)*es.length:=zzX _ (by omega);exact ⟨by omega,by omega,by omega⟩
  ·by_cases h6:e.kind=6
   ·obtain ⟨l,r,hk⟩:=eE.k5 (.inr h6);rw[zh3 fns n below q h6 hk];have hl:=hd.kid (k:=l) (by simp[hk]);have hr:=hd.kid (k:=r) (by simp[hk]);rw[hk]at dj;simp at dj;have bd:=zaZ N r;have E6:=zbg q.zac (free N r);have h1:=(ih r 2 (zbo q (zai q.zac (free N r)) e) hr (by omega)).2.2;have bJ:(zbo q (zai q.zac (free N r)) e).blocks.length=q.blocks.length+1:=by simp[zbo]
    rw[bJ]at h1;clear bJ;generalize zai q.zac (free N r)=names at E6 h1 ⊢;generalize work (free N) fns n r 2 (zbo q names e)=R at h1 ⊢;obtain ⟨c,u1,u2⟩:=zd6 fns ⟨R.blocks++[(names.length+1,R.code)],q.zac,q.code⟩ names;rw[u1];simp only[Bs.push];obtain ⟨d1,d2,d3⟩:=ih l (below+names.length+1) ⟨R.blocks++[(names.length+1,R.code)],q.zac++List.replicate names.length []++[[]],q.code++c++[.wait R.blocks.length]⟩ hl (by omega);have hmul:(M+8)*(wt N l+1)<=(M+8)*wt N e:=zzp _ (by omega);rw[zzI]at hmul;simp only[zyT,zy0,zzz]at d1 d2 d3;exact ⟨by omega,by omega,by omega⟩
   ·by_cases h9:e.kind=9
    ·obtain ⟨aH,s,ds,hk,rY⟩:=eE.k9 h9;have hs:=hd.kid (k:=s) (by simp[hk]);have r6:∀ x∈ds,Dp N x/\wt N x<=M:=fun x hx=>⟨hd.kid (by simp[hk,hx]),by have:=hd.zgZ (k:=x) (by simp[hk,hx]);omega⟩
     rw[hk]at dj;simp at dj;have aU:=zbN (free N) (wt N) (zaZ N) e.zao ds [];have rN:=zbg q.zac (zas (free N) e.zao ds []);obtain ⟨names,iZ⟩:∃ names,names=zai q.zac (zas (free N) e.zao ds []):=⟨_,rfl⟩;rw[<-iZ]at rN;obtain ⟨ao,mJ⟩:∃ ao,ao=armsOf (work (free N) fns n) names e.zao ds ⟨q.blocks,([]::names).reverse,[]⟩ []:=⟨_,rfl⟩;obtain ⟨a1,a2,a3⟩:=zeH ih names e.zao ds ⟨q.blocks,([]::names).reverse,[]⟩ [] r6;rw[<-mJ]at a1;rw[zfk fns n below q h9 hk iZ mJ];obtain ⟨c,u1,u2⟩:=zd6 fns ⟨ao.1.blocks++[(names.length+1,ao.1.code++[.choose ao.2])],q.zac,q.code⟩ names;rw[u1];simp only[Bs.push];obtain ⟨d1,d2,d3⟩:=ih s (below+names.length+1) ⟨ao.1.blocks++[(names.length+1,ao.1.code++[.choose ao.2])],q.zac++List.replicate names.length []++[[]],q.code++c++[.wait ao.1.blocks.length]⟩ hs (by omega);have hmul:(M+8)*(wt N s+1)<=(M+8)*wt N e:=zzp _ (by omega);rw[zzI]at hmul;simp only[zyT,zy0,zzz,zzm,zzG]at d1 d2 d3 aU;simp only at a1;exact ⟨by omega,by omega,by omega⟩
    ·by_cases h7:e.kind=7\/e.kind=8
     ·obtain ⟨aH,d,ps,hk,gK⟩:=eE.k7 h7;rw[work];simp only[h5,h6,h9,h7,if_false,if_true];have iX:=hd.kid (k:=d) (by simp[hk]);rw[hk]at dj;simp at dj;have hmul:(M+8)*(wt N d+e.names.length)<=(M+8)*wt N e:=zzp _ (by omega);rw[zzI]at hmul;have ev:e.names.length<=(M+8)*e.names.length:=zzX _ (by omega);split
      ·rw[zei hk];obtain ⟨a1,a2,a3⟩:=zdU ih fns hk gK q hd hm;obtain ⟨d1,d2,d3⟩:=ih d 0 (zdq (work (free N) fns n) (free N) fns e ps q) iX (by omega);rw[a2,zyT,zcs]at d2;exact ⟨by omega,by omega,by omega⟩
      ·simp only[Bs.zhD,Bs.ends,Bs.write];obtain ⟨c,u1,u2⟩:=zd6 fns q (zai q.zac (free N e));rw[u1];simp only;rw[zei hk];obtain ⟨a1,a2,a3⟩:=zdU ih fns hk gK ⟨q.blocks,(zai q.zac (free N e)).reverse,[]⟩ hd hm;obtain ⟨d1,d2,d3⟩:=ih d 0 (zdq (work (free N) fns n) (free N) fns e ps ⟨q.blocks,(zai q.zac (free N e)).reverse,[]⟩) iX (by omega);simp only at a1;simp only[zyT,zy0,zzz];exact ⟨by omega,by omega,by omega⟩
     ·rw[work];simp only[h5,h6,h9,h7,if_false];obtain ⟨bl,c,k1,_,k2,k3⟩:=zpz (work (free N) fns n) (free N) fns q e;rw[k1];simp only[Bs.ends,Bs.write,zyT,zy0];refine ⟨by omega,by omega,?_⟩;rcases k3 with k3|⟨i1,i2,k3⟩
      ·rw[k3];omega
      ·rw[k3];have EJ:e.kind=3\/e.kind=4:=by omega
       unfold zal Bs.zhD;rcases EJ with h3|h4
       ·simp only[h3,if_true,Bs.write];simp;omega
       ·obtain ⟨_,d,hk⟩:=eE.k4 h4;have iX:=hd.kid (k:=d) (by simp[hk]);have h2:=hd.zgZ (k:=d) (by simp[hk]);simp only[h4,if_true,hk];have h3:=(ih d 0 ⟨q.blocks,(zai q.zac (free N e)++Th.texts e.names).reverse,[]⟩ iX (by omega)).2.2;simp only[zyT,zy0];simp only at h3;omega
end Cp
end Go.Proofs.YtgahgkddaljmkaaGreatDoor
namespace Go.Proofs.YtgahgkddaljmkaaGreatDoor
open Tryz
open Go.RowKit Go.Shelf
variable {M N:Nat}
variable {fns:List Cp.Nm}
variable {q:Cp.Bs}
variable {e:Th.Ex}
theorem Fit.prod(h:Fit M N fns q e):(M+8)*Cp.wt N e<=25040000:=by
 have h1:=h.wt;have h2:=h.mm;exact zyR (zAg (show M+8<=5008 by omega) (show Cp.wt N e<=5000 by omega)) (by decide)
theorem Fit.len(h:Fit M N fns q e):(Cp.free N e).length<=5000:=by
 have h1:=h.wt;have h2:=h.mm;have:=Cp.zaZ N e;omega
theorem Fit.hlen(h:Fit M N fns q e)(sl:List Cp.Nm):(Cp.zai sl (Cp.free N e)).length<=5000:=zyR (Cp.zbg _ _) h.len
theorem Fit.hin(h:Fit M N fns q e)(sl:List Cp.Nm):∀ x∈Cp.zai sl (Cp.free N e),x≠[]/\(Cp.za9 q.zac x=none->x∈fns):=fun x hx=>by
 obtain ⟨h1,h2⟩:=h.nm x (Cp.zbK.1 hx).1;refine ⟨h1,fun hs=>?_⟩;rcases h2 with h2|h2
 ·exact absurd h2 (Cp.zca.1 hs)
 ·exact h2
theorem Fit.susp(h:Fit M N fns q e):Fit M N fns ⟨q.blocks,(Cp.zai q.zac (Cp.free N e)).reverse,[]⟩ e:=by
 have hp:=h.prod;have hl:=h.hlen q.zac;refine ⟨h.dp,h.wt,h.mm,h.fl,fun x hx=>?_,by simp;omega,by simp;omega,h.bl⟩;obtain ⟨h1,h2⟩:=h.nm x hx;refine ⟨h1,?_⟩;rcases h2 with h2|h2
 ·exact .inl (by simp[Cp.zbK,hx,h2])
 ·exact .inr h2
variable {d:Th.Ex}
theorem Fit.lam(h:Fit M N fns q e)(h4:e.kind=4)(hk:e.kids=[d]):Fit M N fns ⟨q.blocks,(Cp.zai q.zac (Cp.free N e)++Th.texts e.names).reverse,[]⟩ d/\(Cp.zai q.zac (Cp.free N e)).length+e.names.length<=10000:=by
 have hp:=h.prod;have hl:=h.hlen q.zac;have hw:=h.wt;have hm:=h.mm;have cV:=h.bl;have cK:=h.dp.zgZ (k:=d) (by simp[hk]);have EK:(M+8)*Cp.wt N d<=(M+8)*Cp.wt N e:=zzp _ (by omega);have hn:e.names.length<=5000:=by have:=h.dp.wt;omega
 have ak:=h.dp.free;rw[hk]at ak;simp only[h4]at ak;simp at ak;have ht:=Cp.zcs e.names;refine ⟨⟨h.dp.kid (by simp[hk]),by omega,h.mm,h.fl,fun x hx=>?_,by simp;omega,by simp;omega,by simp only;omega⟩,by omega⟩;by_cases fT:x∈Th.texts e.names
 ·have aH:x≠[]:=by
   obtain ⟨t,h1,h2⟩:=zz1.1 fT;rw[<-h2];exact h.dp.zea.nm t h1
  exact ⟨aH,.inl (by simp[fT])⟩
 ·have uT:x∈Cp.free N e:=by rw[ak];exact Cp.zaN.2 ⟨hx,fT⟩
  obtain ⟨h1,h2⟩:=h.nm x uT;refine ⟨h1,?_⟩;rcases h2 with h2|h2
  ·exact .inl (by simp[Cp.zbK,uT,h2])
  ·exact .inr h2
variable {fr:Th.Ex->List Cp.Nm}
theorem Cp.zh8{wk:Th.Ex->Nat->Cp.Bs->Cp.Bs}(q:Cp.Bs)(h3:e.kind≠3)(h4:e.kind≠4):Cp.zal wk fr q e=(⟨(wk e 0 ⟨q.blocks,(Cp.zai q.zac (fr e)).reverse,[]⟩).blocks++[((Cp.zai q.zac (fr e)).reverse.length,(wk e 0 ⟨q.blocks,(Cp.zai q.zac (fr e)).reverse,[]⟩).code)],q.zac,q.code⟩,(wk e 0 ⟨q.blocks,(Cp.zai q.zac (fr e)).reverse,[]⟩).blocks.length,Cp.zai q.zac (fr e)):=by
 unfold Cp.zal Cp.Bs.zhD;simp only[if_neg h4,if_neg h3]
variable {n:Nat}
variable {Z:Nat->Prop}
variable {w:World}
variable {cb bb:Nat}
variable {rv sv kv v:Value}
theorem zwq(hW:zbi M N n)(h:BS Z w cb bb rv sv kv fns q)(hr:Rep Z w n v e)(hf:Fit M N fns q e):
  ∀ W nv,Fr (fun _=>False) w W->Names w.heap.size W nv (Cp.zai q.zac (Cp.free N e))->Calls prog 161 #[.pointer (some ⟨cb,0,none⟩),v,nv] W fun r w'=>r=.returned (.int .i64 (Cp.work (Cp.free N) fns n e 0 ⟨q.blocks,(Cp.zai q.zac (Cp.free N e)).reverse,[]⟩).blocks.length) /\
   zfH (fun k=>Z k\/nv.ownBlock=some k) W cb rv fns ((Cp.work (Cp.free N) fns n e 0 ⟨q.blocks,(Cp.zai q.zac (Cp.free N e)).reverse,[]⟩).blocks++[((Cp.zai q.zac (Cp.free N e)).reverse.length,(Cp.work (Cp.free N) fns n e 0 ⟨q.blocks,(Cp.zai q.zac (Cp.free N e)).reverse,[]⟩).code)]) w':=by
 intro W nv fW ay;have hc:=(Cp.zaK M N fns n e 0 ⟨q.blocks,(Cp.zai q.zac (Cp.free N e)).reverse,[]⟩ hf.dp hf.wt).2.2;have cV:=hf.bl;have hl:=hf.hlen q.zac;exact zkK hW (h.zp5 fW ay).cs (hr.frz fW (by simp) (fun _ _ x=>.inl x)) ⟨ay.1,fun k hk=>.inr hk⟩ hf.susp (by omega) (by simp only at hc;omega)
theorem Cp.zi8{wk:Th.Ex->Nat->Cp.Bs->Cp.Bs}(q:Cp.Bs)(h4:e.kind=4)(hk:e.kids=[d]):Cp.zal wk fr q e=(⟨(wk d 0 ⟨q.blocks,(Cp.zai q.zac (fr e)++Th.texts e.names).reverse,[]⟩).blocks++[((Cp.zai q.zac (fr e)++Th.texts e.names).reverse.length,(wk d 0 ⟨q.blocks,(Cp.zai q.zac (fr e)++Th.texts e.names).reverse,[]⟩).code)],q.zac,q.code⟩,(wk d 0 ⟨q.blocks,(Cp.zai q.zac (fr e)++Th.texts e.names).reverse,[]⟩).blocks.length,Cp.zai q.zac (fr e)):=by
 unfold Cp.zal Cp.Bs.zhD;simp only[if_pos h4,hk]
theorem Cp.zlg{wk:Th.Ex->Nat->Cp.Bs->Cp.Bs}(q:Cp.Bs)(h3:e.kind=3):Cp.zal wk fr q e=(⟨q.blocks++[((List.replicate e.arity ([]:Cp.Nm)).length,[.pack e.tag e.arity,.enter])],q.zac,q.code⟩,q.blocks.length,Cp.zai q.zac (fr e)):=by
 unfold Cp.zal Cp.Bs.zhD;have h4:¬ e.kind=4:=by omega
 simp only[if_neg h4,if_pos h3];rfl
abbrev znk (_M N n:Nat) (Z:Nat->Prop) (w:World) (cb bb:Nat) (rv sv kv v:Value) (fns:List Cp.Nm) (q:Cp.Bs) (e:Th.Ex):Prop:=
 Calls prog 165 #[.pointer (some ⟨bb,0,none⟩),v] w fun r w'=>∃ nv,r=.returned (.tuple #[.int .i64 (Cp.zal (Cp.work (Cp.free N) fns n) (Cp.free N) q e).2.1,nv])/\znm Z w cb bb rv sv kv fns (Cp.zal (Cp.work (Cp.free N) fns n) (Cp.free N) q e).1 w' nv (Cp.zai q.zac (Cp.free N e))
theorem zhG(hW:zbi M N n)(hn:n+1<=N)(h:BS Z w cb bb rv sv kv fns q)(hr:Rep Z w (n+1) v e)(hf:Fit M N fns q e)(mN:e.kind=3\/e.kind=4):znk M N n Z w cb bb rv sv kv v fns q e:=by
 have hw:=hf.wt;have hm:=hf.mm;have ak:=zgU N (hr.le hn) (by omega);have aL:=hf.len;have aK:=hf.sl;have cV:=hf.bl;have lq:=hf.hlen q.zac;unfold znk;rcases hr with ⟨hk,rfl⟩|⟨hk,rfl⟩|⟨hk,rfl⟩|⟨hk,bf,bv,b,k1,rfl,k3,k4⟩|⟨hk,u1,u2,d1,d2,k1,rfl,k3,k4⟩|⟨hk,u1,u2,d1,d2,k1,rfl,k3,k4⟩|⟨hk,bf,bv,b,parts,pvs,k1,rfl,k3,k4,k5,k6,k7⟩|⟨hk,cv,bf,b,ag,nvs,bvs,k1,rfl,k3,k4,k5,k6,k7,k8,k9⟩
 ·omega
 ·omega
 ·rw[Cp.zlg q hk];refine zmb h ak rfl (by omega) (by omega) (fun W nv fW ay=>?_);exact zrK rfl (h.zp5 fW ay).cs (by omega) (by have:=hf.dp.zea.ar;omega)
 ·rw[Cp.zi8 q hk k1];obtain ⟨bZ,iZ⟩:=hf.lam hk k1;have hc:=(Cp.zaK M N fns n b 0 ⟨q.blocks,(Cp.zai q.zac (Cp.free N e)++Th.texts e.names).reverse,[]⟩ bZ.dp bZ.wt).2.2;have oS:=bZ.bl;obtain ⟨pp,pn,pc,rfl⟩:=zae k3;obtain ⟨bt,bx,rfl⟩:=zah k4;refine zky h ak rfl (by omega) (by omega) (fun W nv fW ay=>?_);exact zrz hW rfl rfl (h.zp5 fW ay).cs (k4.frz fW (by simp) (fun _ _ x=>.inl x)) (k3.frz fW (by simp) (fun _ _ x=>.inl x)) ⟨ay.1,fun k hk=>.inr hk⟩ bZ (by omega) (by simp only at hc oS;omega)
 all_goals omega
theorem zeL(hW:zbi M N n)(hn:n+1<=N)(h:BS Z w cb bb rv sv kv fns q)(hr:Rep Z w n v e)(hf:Fit M N fns q e):znk M N n Z w cb bb rv sv kv v fns q e:=by
 by_cases mN:e.kind=3\/e.kind=4
 ·exact zhG hW hn h (hr.le (zz8 n)) hf mN
 have hw:=hf.wt;have hm:=hf.mm;have ak:=zgU N (hr.le (Nat.le_of_succ_le hn)) (by omega);have aL:=hf.len;have aK:=hf.sl;have mZ:=zwq hW h hr hf;unfold znk;rw[Cp.zh8 q (fun e=>mN (.inl e)) (fun e=>mN (.inr e))];cases n with
 |zero=>exact hr.elim
 |succ n=>
  rcases hr with ⟨hk,rfl⟩|⟨hk,rfl⟩|⟨hk,rfl⟩|⟨hk,bf,bv,b,k1,rfl,k3,k4⟩|⟨hk,u1,u2,d1,d2,k1,rfl,k3,k4⟩|⟨hk,u1,u2,d1,d2,k1,rfl,k3,k4⟩|⟨hk,bf,bv,b,parts,pvs,k1,rfl,k3,k4,k5,k6,k7⟩|⟨hk,cv,bf,b,ag,nvs,bvs,k1,rfl,k3,k4,k5,k6,k7,k8,k9⟩
  ·exact zkz h ak rfl (by omega) (by omega) mZ
  ·exact zph h ak rfl (by omega) (by omega) mZ
  ·omega
  ·omega
  ·exact znz h ak rfl (by omega) (by omega) mZ
  ·exact zhH h ak rfl (by omega) (by omega) mZ
  ·exact zpg h ak rfl (by omega) (by omega) mZ
  ·exact znA h ak rfl (by omega) (by omega) mZ
abbrev zqe (_M N n:Nat) (Z:Nat->Prop) (w:World) (cb bb:Nat) (rv sv kv v:Value) (fns:List Cp.Nm) (q:Cp.Bs) (e:Th.Ex):Prop:=
 Calls prog 95 #[.pointer (some ⟨bb,0,none⟩),v] w fun r w'=>r=.returned (.tuple #[])/\Did Z w cb bb rv sv kv fns (Cp.zaI (Cp.work (Cp.free N) fns n) (Cp.free N) fns q e) w'
theorem Cp.zgX{wk:Th.Ex->Nat->Cp.Bs->Cp.Bs}(q:Cp.Bs)(h1:e.kind≠1)(h2:e.kind≠2)(h3:¬ (e.kind=3/\e.arity=0)):Cp.zaI wk fr fns q e=(((Cp.zal wk fr q e).1.zak fns (Cp.zai q.zac (fr e))).drop (Cp.zai q.zac (fr e)).length).push (.close (Cp.zal wk fr q e).2.1 (Cp.zai q.zac (fr e)).length):=by
 unfold Cp.zaI;simp only[if_neg h2,if_neg h1,if_neg h3];rfl
theorem Cp.zck(wk:Th.Ex->Nat->Cp.Bs->Cp.Bs)(fr:Th.Ex->List Cp.Nm)(q:Cp.Bs)(e:Th.Ex):(Cp.zal wk fr q e).1.zac=q.zac/\(Cp.zal wk fr q e).1.code=q.code:=by
 obtain ⟨bl,h⟩:=Cp.zfr wk fr q e;rw[h];exact ⟨rfl,rfl⟩
theorem zti(hW:zbi M N n)(hn:n+1<=N)(h:BS Z w cb bb rv sv kv fns q)(hr:Rep Z w (n+1) v e)(hf:Fit M N fns q e)(mM:e.kind<=4):zqe M N n Z w cb bb rv sv kv v fns q e:=by
 have hw:=hf.wt;have hm:=hf.mm;have aL:=hf.len;have aK:=hf.sl;have aN:=hf.cl;have bZ:=hf.fl;have lq:=hf.hlen q.zac;have hp:=hf.dp.pos;have hM:M+8<=(M+8)*Cp.wt N e:=zzU _ hp;have hle:=zyR (Cp.zbg q.zac (Cp.free N e)) (Cp.zaZ N e);have fQ:=hr;unfold zqe;have aE:=Cp.zck (Cp.work (Cp.free N) fns n) (Cp.free N) q e;rcases hr with ⟨hk,rfl⟩|⟨hk,rfl⟩|⟨hk,rfl⟩|⟨hk,bf,bv,b,k1,rfl,k3,k4⟩|⟨hk,u1,u2,d1,d2,k1,rfl,k3,k4⟩|⟨hk,u1,u2,d1,d2,k1,rfl,k3,k4⟩|⟨hk,bf,bv,b,parts,pvs,k1,rfl,k3,k4,k5,k6,k7⟩|⟨hk,cv,bf,b,ag,nvs,bvs,k1,rfl,k3,k4,k5,k6,k7,k8,k9⟩
 ·have he:Cp.zaI (Cp.work (Cp.free N) fns n) (Cp.free N) fns q e=q.push (.num e.n):=by unfold Cp.zaI;rw[if_neg (by omega),if_pos hk]
  rw[he];exact zpy h (by omega) (by omega)
 ·have he:Cp.zaI (Cp.work (Cp.free N) fns n) (Cp.free N) fns q e=q.use fns e.tok.s:=by unfold Cp.zaI;rw[if_pos hk]
  rw[he];have ak:=hf.dp.free;simp only[hk,if_true]at ak;obtain ⟨_,h2⟩:=hf.nm e.tok.s (by rw[ak];simp);refine zvC h e.tok.s (fun hs=>?_) (by omega) (by omega) (by omega);rcases h2 with h2|h2
  ·exact absurd h2 (Cp.zca.1 hs)
  ·exact h2
 ·by_cases ha:e.arity=0
  ·have he:Cp.zaI (Cp.work (Cp.free N) fns n) (Cp.free N) fns q e=q.push (.pack e.tag 0):=by unfold Cp.zaI;rw[if_neg (by omega),if_neg (by omega),if_pos ⟨hk,ha⟩]
   rw[he,ha];exact zpx h (by omega) (by omega)
  ·rw[Cp.zgX q (by omega) (by omega) (fun x=>ha x.2)];exact zrx h (by omega) (fun W fW=>zhG hW hn (h.fr0 fW) (fQ.fr0 fW) hf (.inl hk)) (by rw[aE.1];exact hf.hin q.zac) (by rw[aE.2];omega) (by rw[aE.1];omega) (by omega)
 ·rw[Cp.zgX q (by omega) (by omega) (fun x=>by omega)];exact zpw h (fun W fW=>zhG hW hn (h.fr0 fW) (fQ.fr0 fW) hf (.inr hk)) (by rw[aE.1];exact hf.hin q.zac) (by rw[aE.2];omega) (by rw[aE.1];omega) (by omega)
 all_goals omega
theorem zwT(hW:zbi M N n)(hn:n+1<=N)(h:BS Z w cb bb rv sv kv fns q)(hr:Rep Z w n v e)(hf:Fit M N fns q e):zqe M N n Z w cb bb rv sv kv v fns q e:=by
 by_cases mM:e.kind<=4
 ·exact zti hW hn h (hr.le (zz8 n)) hf mM
 have hw:=hf.wt;have hm:=hf.mm;have aK:=hf.sl;have aN:=hf.cl;have bZ:=hf.fl;have lq:=hf.hlen q.zac;have hp:=hf.dp.pos;have hM:M+8<=(M+8)*Cp.wt N e:=zzU _ hp;have hle:=zyR (Cp.zbg q.zac (Cp.free N e)) (Cp.zaZ N e);have aE:=Cp.zck (Cp.work (Cp.free N) fns n) (Cp.free N) q e;have fQ:=hr;unfold zqe;rw[Cp.zgX q (by omega) (by omega) (fun x=>by omega)];cases n with
 |zero=>exact hr.elim
 |succ n=>
  rcases hr with ⟨hk,rfl⟩|⟨hk,rfl⟩|⟨hk,rfl⟩|⟨hk,bf,bv,b,k1,rfl,k3,k4⟩|⟨hk,u1,u2,d1,d2,k1,rfl,k3,k4⟩|⟨hk,u1,u2,d1,d2,k1,rfl,k3,k4⟩|⟨hk,bf,bv,b,parts,pvs,k1,rfl,k3,k4,k5,k6,k7⟩|⟨hk,cv,bf,b,ag,nvs,bvs,k1,rfl,k3,k4,k5,k6,k7,k8,k9⟩
  ·omega
  ·omega
  ·omega
  ·omega
  ·exact ztj h (fun W fW=>zeL hW hn (h.fr0 fW) (fQ.fr0 fW) hf) (by rw[aE.1];exact hf.hin q.zac) (by rw[aE.2];omega) (by rw[aE.1];omega) (by omega)
  ·exact zkC h (fun W fW=>zeL hW hn (h.fr0 fW) (fQ.fr0 fW) hf) (by rw[aE.1];exact hf.hin q.zac) (by rw[aE.2];omega) (by rw[aE.1];omega) (by omega)
  ·exact zvB h (fun W fW=>zeL hW hn (h.fr0 fW) (fQ.fr0 fW) hf) (by rw[aE.1];exact hf.hin q.zac) (by rw[aE.2];omega) (by rw[aE.1];omega) (by omega)
  ·exact ztk h (fun W fW=>zeL hW hn (h.fr0 fW) (fQ.fr0 fW) hf) (by rw[aE.1];exact hf.hin q.zac) (by rw[aE.2];omega) (by rw[aE.1];omega) (by omega)
theorem Fit.part{b:Cp.Bs}(h:Fit M N fns q e)(hd:Cp.Dp N d)(hw:Cp.wt N d<=Cp.wt N e)(hs:∀ x∈Cp.free N d,x≠[]/\(x∈b.zac\/x∈fns))(h1:b.code.length+(M+8)*Cp.wt N d<=q.code.length+(M+8)*Cp.wt N e)(h2:b.zac.length+(M+8)*Cp.wt N d<=q.zac.length+(M+8)*Cp.wt N e)(h3:b.blocks.length+8*Cp.wt N d<=q.blocks.length+8*Cp.wt N e):Fit M N fns b d:=
 ⟨hd,zyR hw h.wt,h.mm,h.fl,hs,zyR h1 h.cl,zyR h2 h.sl,zyR h3 h.bl⟩
theorem Cp.zgt{N:Nat}:∀ (m:Nat) (e:Th.Ex),Cp.Dp N e->e.kind=5->(∀ x∈Cp.free N (Cp.spread m e).1,x∈Cp.free N e)/\∀ d∈(Cp.spread m e).2,∀ x∈Cp.free N d,x∈Cp.free N e
 |0,e,h,_=>by simp[Cp.spread]
 |m+1,e,h,h5=>by
  obtain ⟨f,a,hk⟩:=h.zea.k5 (.inl h5);have ak:=h.free;rw[hk]at ak;simp[h5]at ak;rw[Cp.spread,hk];simp only;split
  ·next Ep=>
   obtain ⟨i1,i2⟩:=Cp.zgt m f (h.kid (by simp[hk])) Ep;refine ⟨fun x hx=>?_,fun d hd x hx=>?_⟩
   ·rw[ak];exact Cp.zaw.2 (.inl (i1 x hx))
   ·rw[ak];rcases zzi.1 hd with hd|hd
    ·exact Cp.zaw.2 (.inl (i2 d hd x hx))
    ·rw[zze.1 hd]at hx;exact Cp.zaw.2 (.inr hx)
  ·refine ⟨fun x hx=>?_,fun d hd x hx=>?_⟩
   ·rw[ak];exact Cp.zaw.2 (.inl hx)
   ·rw[ak];rw[zze.1 hd]at hx;exact Cp.zaw.2 (.inr hx)
theorem Cp.zwp(f:Th.Ex->Nat)(l:List Th.Ex)(k:Nat):((l.drop k).map f).sum<=(l.map f).sum:=by
 have h:(l.map f).sum=((l.take k).map f).sum+((l.drop k).map f).sum:=by rw[<-zz5,<-zz3,zAj]
 omega
theorem zd8(hW:zbi M N n)(hn:n+1<=N){below:Nat}(h:BS Z w cb bb rv sv kv fns q)(hr:Rep Z w (n+1) v e)(hf:Fit M N fns q e)(hb:below+(M+8)*Cp.wt N e<=1000000000)(mM:e.kind<=4):
  Calls prog 54 #[.pointer (some ⟨bb,0,none⟩),v,.int .i64 below] w fun r w'=>r=.returned (.tuple #[])/\Did Z w cb bb rv sv kv fns (Cp.work (Cp.free N) fns (n+1) e below q) w':=by
 have hH:=zti hW hn h hr hf mM;have aK:=hf.sl;have aN:=hf.cl;have hp:=hf.dp.pos;have hM:M+8<=(M+8)*Cp.wt N e:=zzU _ hp;have hc:=(Cp.znR (Cp.zaK M N fns n) fns q hf.dp hf.wt).2.2;have he:Cp.work (Cp.free N) fns (n+1) e below q=(Cp.zaI (Cp.work (Cp.free N) fns n) (Cp.free N) fns q e).ends (below+1) .enter:=by
  rw[Cp.work,if_neg (by omega),if_neg (by omega),if_neg (by omega),if_neg (by omega)]
 rw[he];rcases hr with ⟨hk,rfl⟩|⟨hk,rfl⟩|⟨hk,rfl⟩|⟨hk,bf,bv,b,k1,rfl,k3,k4⟩|⟨hk,u1,u2,d1,d2,k1,rfl,k3,k4⟩|⟨hk,u1,u2,d1,d2,k1,rfl,k3,k4⟩|⟨hk,bf,bv,b,parts,pvs,k1,rfl,k3,k4,k5,k6,k7⟩|⟨hk,cv,bf,b,ag,nvs,bvs,k1,rfl,k3,k4,k5,k6,k7,k8,k9⟩
 ·exact zp7 (by omega) (by omega) hH
 ·exact zwH (by omega) (by omega) hH
 ·exact zsl (by omega) (by omega) hH
 ·exact zp6 (by omega) (by omega) hH
 all_goals omega
theorem zkp(hN:N<=100000)(hW:zbi M N n)(hn:n+1<=N){below:Nat}{u1 u2:Value}{d1 d2:Th.Ex}(h:BS Z w cb bb rv sv kv fns q)(hk:e.kind=5)(k1:e.kids=[d1,d2])(k3:Rep Z w n u1 d1)(k4:Rep Z w n u2 d2)(hf:Fit M N fns q e)(hb:below+(M+8)*Cp.wt N e<=1000000000):
  Calls prog 54 #[.pointer (some ⟨bb,0,none⟩),.iface 163 (.agg #[u1,u2]),.int .i64 below] w fun r w'=>r=.returned (.tuple #[])/\Did Z w cb bb rv sv kv fns (Cp.work (Cp.free N) fns (n+1) e below q) w':=by
 obtain ⟨t1,x1,rfl⟩:=zah k3;obtain ⟨t2,x2,rfl⟩:=zah k4;obtain ⟨s1,s2,s3⟩:=Cp.zeY (n+1) e hf.dp;obtain ⟨s5,s6⟩:=Cp.zgt (n+1) e hf.dp hk;have s4:=Cp.zhU (m:=n) k1;have eB:=Cp.zom n e d1 d2 _ k1 k3;have mY:=fun W (fW:Fr (fun _=>False) w W)=>zlS (Z:=Z) (n:=n) (by omega) n (zyN _) (w:=W) (fun k hk=>zyS (h.zlt k hk) fW.size) (k3.fr0 fW) (k4.fr0 fW)
 have he:Cp.work (Cp.free N) fns (n+1) e below q=Cp.work (Cp.free N) fns n (Cp.spread (n+1) e).1 (below+(Cp.spread (n+1) e).2.length+1) (((Cp.spread (n+1) e).2.reverse.foldl (Cp.zaI (Cp.work (Cp.free N) fns n) (Cp.free N) fns) q).push (.zbF (Cp.spread (n+1) e).2.length)):=by
  rw[Cp.work,if_pos hk]
 rw[he];rw[<-eB]at mY;clear he eB;generalize Cp.spread (n+1) e=s at s1 s2 s3 s4 s5 s6 mY ⊢;obtain ⟨fe,es⟩:=s;simp only at s1 s2 s3 s4 s5 s6 mY ⊢;have hw:=hf.wt;have hm:=hf.mm;have aN:=hf.cl;have aK:=hf.sl;have hmul:(M+8)*(Cp.wt N fe+(es.map (Cp.wt N)).sum+es.length)<=(M+8)*Cp.wt N e:=zzp _ s1;rw[zzI,zzI]at hmul;have cQ:∀ x∈es,Cp.Dp N x/\Cp.wt N x<=M:=fun x hx=>⟨s3 x hx,by have:=Cp.zbj (f:=Cp.wt N) hx;omega⟩
 have bp:1<=(es.map (Cp.wt N)).sum:=by
  cases es with
  |nil=>simp at s4
  |cons x es=>have:=(s3 x (by simp)).pos;simp;omega
 have oN:M+8<=(M+8)*(es.map (Cp.wt N)).sum:=zzU _ bp;have jo:(M+1)*es.length<=(M+8)*es.length:=Nat.mul_le_mul_right _ (by omega);have sH:es.length<=(M+8)*es.length:=zzX _ (by omega);obtain ⟨a1,a2,a3⟩:=Cp.zcf (Cp.zaK M N fns n) fns es.reverse q (fun x hx=>cQ x (by simpa using hx));have dh:(es.reverse.map (Cp.wt N)).sum=(es.map (Cp.wt N)).sum:=by rw[List.map_reverse,List.sum_reverse]
 rw[dh]at a1;rw[zy4]at a3;have Du:(es.reverse.foldl (Cp.zaI (Cp.work (Cp.free N) fns n) (Cp.free N) fns) q).zac.length=q.zac.length+es.length:=by rw[a2];simp
 refine zuO (fun W fW=>zsK hW (h.fr0 fW) (fun W2 wH=>mY W2 (fW.trans wH)) ?_ (by omega) (by omega) (by omega) ?_ (by omega))
 ·intro i e' Z1 W1 bh bf cA v lZ hi aA dd;refine zwT hW hn aA dd ?_;have fO:=zy1 lZ;have aj:es.length-(i+1)<es.length:=by omega
  have r5:es.drop (es.length-(i+1))=e'::es.drop (es.length-i):=by
   rw[zzs aj,show es.length-(i+1)+1=es.length-i by omega];rw[zyM aj]at lZ;cases lZ;rfl
  have E8:=Cp.zwp (Cp.wt N) es (es.length-(i+1));rw[r5,zza,zzd]at E8;obtain ⟨b1,b2,b3⟩:=Cp.zcf (Cp.zaK M N fns n) fns (es.drop (es.length-i)).reverse q (fun x hx=>cQ x (List.mem_of_mem_drop (by simpa using hx)));have lE:((es.drop (es.length-i)).reverse.map (Cp.wt N)).sum=((es.drop (es.length-i)).map (Cp.wt N)).sum:=by rw[List.map_reverse,List.sum_reverse]
  rw[lE]at b1;have rY:(es.drop (es.length-i)).reverse.length=i:=by simp;omega
  rw[rY]at b2 b3;have lg:(M+1)*i<=(M+8)*es.length:=zAg (by omega) (by omega);have GC:(M+8)*Cp.wt N e'<=(M+8)*(es.map (Cp.wt N)).sum:=zzp _ (by omega);refine hf.part (s3 e' fO) (by omega) (fun x hx=>?_) (by omega) (by rw[b2];simp;omega) (by omega);obtain ⟨c1,c2⟩:=hf.nm x (s6 e' fO x hx);refine ⟨c1,?_⟩;rw[b2];rcases c2 with c2|c2
  ·exact .inl (by simp[c2])
  ·exact .inr c2
 ·refine hf.part s2 (by omega) (fun x hx=>?_) (by simp only[Cp.Bs.push,zyT,zy0];omega) (by simp only[Cp.Bs.push,zyT,zy0];omega) (by simp only[Cp.Bs.push];omega);obtain ⟨c1,c2⟩:=hf.nm x (s5 x hx);refine ⟨c1,?_⟩;simp only[Cp.Bs.push];rw[a2];rcases c2 with c2|c2
  ·exact .inl (by simp[c2])
  ·exact .inr c2
end Go.Proofs.YtgahgkddaljmkaaGreatDoor
