/- Cmp40 .. Cmp43 -/
import Derived.Test.YtgahgkddaljmkaaGreatDoorV21
import Derived.Test.YtgahgkddaljmkaaGreatDoorV26
import Derived.Test.YtgahgkddaljmkaaGreatDoorV1
set_option maxRecDepth 100000
set_option maxHeartbeats 4000000
namespace Go.Proofs.YtgahgkddaljmkaaGreatDoor
namespace Cp
theorem zvS(fns:List Nm)(q:Bs)(x:Nm):∃ i,q.use fns x=⟨q.blocks,q.zac++[[]],q.code++[i]⟩:=by
 unfold Bs.use Bs.push;split
 ·exact ⟨_,rfl⟩
 ·exact ⟨_,rfl⟩
theorem jdF(fns:List Nm):∀ (l:List Nm) (q:Bs),∃ c,l.foldl (Bs.use fns) q=⟨q.blocks,q.zac++List.replicate l.length [],q.code++c⟩/\c.length=l.length
 |[],q=>⟨[],by simp,rfl⟩
 |x::l,q=>by
  obtain ⟨i,h1⟩:=zvS fns q x;obtain ⟨c,h2,h3⟩:=jdF fns l (q.use fns x);refine ⟨i::c,?_,by simp[h3]⟩;rw[zyY,h2,h1];simp[zyZ]
theorem zdZ(fns:List Nm)(q:Bs)(l:List Nm):∃ c,q.zak fns l=⟨q.blocks,q.zac++List.replicate l.length [],q.code++c⟩/\c.length=l.length:=by
 obtain ⟨c,h1,h2⟩:=jdF fns l.reverse q;refine ⟨c,?_,by simpa using h2⟩;unfold Bs.zak;rw[h1];simp
theorem jbP(fns:List Nm)(q:Bs)(l:List Nm):∃ c,(q.zak fns l).drop l.length=⟨q.blocks,q.zac,q.code++c⟩/\c.length=l.length:=by
 obtain ⟨c,h1,h2⟩:=zdZ fns q l;refine ⟨c,?_,h2⟩;rw[h1];unfold Bs.drop;simp
theorem zfr(wk:Th.Ex->Nat->Bs->Bs)(fr:Th.Ex->List Nm)(b:Bs)(e:Th.Ex):∃ bl,zal wk fr b e=(⟨bl,b.zac,b.code⟩,(zal wk fr b e).2.1,zai b.zac (fr e)):=by
 refine ⟨(zal wk fr b e).1.blocks,?_⟩;unfold zal Bs.zhw;split
 ·split <;> rfl
 ·split <;> rfl
theorem jcE(wk:Th.Ex->Nat->Bs->Bs)(fr:Th.Ex->List Nm)(fns:List Nm)(b:Bs)(e:Th.Ex):∃ bl c,zaI wk fr fns b e=⟨bl,b.zac++[[]],b.code++c⟩/\1<=c.length/\c.length<=(fr e).length+1/\(bl=b.blocks\/e.kind≠2/\e.kind≠1/\bl=(zal wk fr b e).1.blocks):=by
 unfold zaI;split
 ·obtain ⟨i,h⟩:=zvS fns b e.tok.s;exact ⟨_,_,h,by simp,by simp,.inl rfl⟩
 ·next h2=>
  split
  ·exact ⟨_,_,rfl,by simp,by simp,.inl rfl⟩
  ·next h1=>
   split
   ·exact ⟨_,_,rfl,by simp,by simp,.inl rfl⟩
   ·obtain ⟨bl,h⟩:=zfr wk fr b e;obtain ⟨c,h3,h4⟩:=jbP fns ⟨bl,b.zac,b.code⟩ (zai b.zac (fr e));have h5:=zbd b.zac (fr e);refine ⟨bl,c++[.close (zal wk fr b e).2.1 (zai b.zac (fr e)).length],?_,by simp,by simp;omega,.inr ⟨h2,h1,by rw[h]⟩⟩;rw[h];simp only;rw[h3];simp[Bs.push]
theorem zbh{f:Th.Ex->Nat}{x:Th.Ex}:∀ {l:List Th.Ex},x∈l->f x<=(l.map f).sum
 |y::l,h=>by
  rw[zx6,zx9];rcases zyk.1 h with rfl|h
  ·omega
  ·have:=zbh (f:=f) h;omega
variable {n:Nat}
variable {e:Th.Ex}
theorem Dp.zgV{k:Th.Ex}(h:Dp n e)(hk:k∈e.kids):Cp.wt n k+1<=Cp.wt n e:=by
 have:=zbh (f:=Cp.wt n) hk;rw[h.wt];omega
theorem ze2{N:Nat}:∀ (m:Nat) (e:Th.Ex),Dp N e->wt N (spread m e).1+((spread m e).2.map (wt N)).sum+(spread m e).2.length<=wt N e/\Dp N (spread m e).1/\∀ x∈(spread m e).2,Dp N x
 |0,e,h=>by simp[spread,h]
 |m+1,e,h=>by
  rw[spread];split
  ·next f a hk=>
   have h1:=h.kid (k:=f) (by simp[hk]);have h2:=h.kid (k:=a) (by simp[hk]);have hw:=h.wt;rw[hk]at hw;simp at hw;split
   ·obtain ⟨i1,i2,i3⟩:=ze2 m f h1;refine ⟨by simp;omega,i2,fun x hx=>?_⟩;rcases zyc.1 hx with hx|hx
    ·exact i3 x hx
    ·rw[zya.1 hx];exact h2
   ·exact ⟨by simp;omega,h1,by simp[h2]⟩
  ·simp[h]
theorem ja8{m:Nat}{f a:Th.Ex}(hk:e.kids=[f,a]):1<=(spread (m+1) e).2.length:=by
 rw[spread,hk];simp only;split
 ·simp
 ·simp
def Cost (M N:Nat) (e:Th.Ex) (q q':Bs):Prop:=q'.code.length<=q.code.length+(M+8)*wt N e/\q'.zac.length<=q.zac.length+(M+8)*wt N e/\q'.blocks.length+1<=q.blocks.length+8*wt N e
def zb7 (M N:Nat) (wk:Th.Ex->Nat->Bs->Bs):Prop:=∀ e below q,Dp N e->wt N e<=M->Cost M N e q (wk e below q)
variable {M N:Nat}
variable {wk:Th.Ex->Nat->Bs->Bs}
theorem zh6(hw:zb7 M N wk)(b:Bs)(hd:Dp N e)(hm:wt N e<=M):(zal wk (free N) b e).1.blocks.length<=b.blocks.length+8*wt N e:=by
 have hp:=hd.pos;unfold zal Bs.zhw;by_cases h4:e.kind=4
 ·obtain ⟨_,d,hk⟩:=hd.zd4.k4 h4;have h1:=hd.kid (k:=d) (by simp[hk]);have h2:=hd.zgV (k:=d) (by simp[hk]);simp only[h4,if_true,hk];have h3:=(hw d 0 ⟨b.blocks,(zai b.zac (free N e)++Th.texts e.names).reverse,[]⟩ h1 (by omega)).2.2;simp only[zxP,zxW];simp only at h3;omega
 ·by_cases h3:e.kind=3
  ·simp only[h3,if_true,Bs.write];simp;omega
  ·simp only[h4,h3,if_false];have h5:=(hw e 0 ⟨b.blocks,(zai b.zac (free N e)).reverse,[]⟩ hd hm).2.2;simp only[zxP,zxW];simp only at h5;omega
theorem jb9(hw:zb7 M N wk)(fns:List Nm)(b:Bs)(hd:Dp N e)(hm:wt N e<=M):(zaI wk (free N) fns b e).blocks.length<=b.blocks.length+8*wt N e/\(zaI wk (free N) fns b e).zac=b.zac++[[]]/\(zaI wk (free N) fns b e).code.length<=b.code.length+(M+1):=by
 obtain ⟨bl,c,h1,_,h2,h3⟩:=jcE wk (free N) fns b e;have hl:=zaZ N e;rw[h1];refine ⟨?_,rfl,by simp;omega⟩;rcases h3 with h3|⟨_,_,h3⟩
 ·rw[h3];simp
 ·rw[h3];exact zh6 hw b hd hm
theorem zcb{M N:Nat}{wk:Th.Ex->Nat->Bs->Bs}(hw:zb7 M N wk)(fns:List Nm):∀ (l:List Th.Ex) (b:Bs),(∀ x∈l,Dp N x/\wt N x<=M) ->
  (l.foldl (zaI wk (free N) fns) b).blocks.length<=b.blocks.length+8*(l.map (wt N)).sum/\(l.foldl (zaI wk (free N) fns) b).zac=b.zac++List.replicate l.length []/\(l.foldl (zaI wk (free N) fns) b).code.length<=b.code.length+(M+1)*l.length
 |[],b,_=>by simp
 |x::l,b,h=>by
  obtain ⟨a1,a2,a3⟩:=jb9 hw fns b (h x (by simp)).1 (h x (by simp)).2;obtain ⟨b1,b2,b3⟩:=zcb hw fns l (zaI wk (free N) fns b x) (fun y hy=>h y (by simp[hy]));rw[zyY];refine ⟨?_,?_,?_⟩
  ·rw[zx6,zx9];omega
  ·rw[b2,a2];simp[zyZ]
  ·rw[zx3,zyE];omega
theorem zgP{M N:Nat}{wk:Th.Ex->Nat->Bs->Bs}(hw:zb7 M N wk):∀ (l:List Th.Ex) (b:Bs) (a:List (List Nm)),(∀ x∈l,Dp N x/\wt N x<=M)->(∀ x∈a,x.length<=M) ->
  (makeAll wk (free N) l b a).1.blocks.length<=b.blocks.length+8*(l.map (wt N)).sum/\(makeAll wk (free N) l b a).1.zac=b.zac/\(makeAll wk (free N) l b a).1.code.length=b.code.length+l.length/\(makeAll wk (free N) l b a).2=a++l.map (fun p=>zai b.zac (free N p))/\∀ x∈(makeAll wk (free N) l b a).2,x.length<=M
 |[],b,a,_,ha=>by simp[makeAll];exact ha
 |p::l,b,a,h,ha=>by
  obtain ⟨bl,hc⟩:=zfr wk (free N) b p;have h1:=zh6 hw b (h p (by simp)).1 (h p (by simp)).2;have h2:=(h p (by simp)).2;have hl:=zxN (zbd b.zac (free N p)) (zaZ N p);obtain ⟨b1,b2,b3,b4,b5⟩:=zgP hw l ((zal wk (free N) b p).1.write (.hold (zal wk (free N) b p).2.1 (zal wk (free N) b p).2.2.length)) (a++[(zal wk (free N) b p).2.2]) (fun y hy=>h y (by simp[hy])) (by
   intro x hx;rcases zyc.1 hx with hx|hx
   ·exact ha x hx
   ·rw[zya.1 hx,hc];simp only;omega)
  have hs:(zal wk (free N) b p).1.zac=b.zac:=by rw[hc]
  have hk:(zal wk (free N) b p).1.code=b.code:=by rw[hc]
  have hn:(zal wk (free N) b p).2.2=zai b.zac (free N p):=by rw[hc]
  rw[makeAll];simp only[Bs.write]at b1 b2 b3 b4 b5 ⊢;refine ⟨?_,?_,?_,?_,b5⟩
  ·rw[zx6,zx9];omega
  ·rw[b2,hs]
  ·rw[b3,hk];simp;omega
  ·rw[b4,hs,hn];simp
theorem zka{M:Nat}(fns:List Nm):∀ (l:List (List Nm)) (i:Nat) (b:Bs),(∀ x∈l,x.length<=M) ->
  (zbe fns i l b).blocks=b.blocks/\(zbe fns i l b).zac=b.zac/\(zbe fns i l b).code.length<=b.code.length+(M+1)*l.length
 |[],_,b,_=>by simp[zbe]
 |x::l,i,b,h=>by
  obtain ⟨c,h1,h2⟩:=jbP fns b x;have hx:=h x (by simp);obtain ⟨b1,b2,b3⟩:=zka fns l (i+1) (((b.zak fns x).drop x.length).write (.fill i x.length)) (fun y hy=>h y (by simp[hy]));rw[zbe];simp only[Bs.write,h1]at b1 b2 b3 ⊢;refine ⟨b1,b2,?_⟩;simp only[zxP,zx3,zyi]at b3 ⊢;rw[zyE];omega
theorem zeZ{M N:Nat}{wk:Th.Ex->Nat->Bs->Bs}(hw:zb7 M N wk)(names:List Nm):∀ (az:List (Nat × List Th.Tok)) (ds:List Th.Ex) (b:Bs) (l:List (Nat × Nat × Nat)),(∀ x∈ds,Dp N x/\wt N x<=M) ->
  (armsOf wk names az ds b l).1.blocks.length<=b.blocks.length+8*(ds.map (wt N)).sum/\(armsOf wk names az ds b l).1.zac=b.zac/\(armsOf wk names az ds b l).1.code=b.code
 |[],ds,b,l,_=>by simp[armsOf]
 |_::_,[],b,l,_=>by simp[armsOf]
 |a::az,d::ds,b,l,h=>by
  have h1:=(hw d 0 ⟨b.blocks,(Th.texts a.2++names).reverse,[]⟩ (h d (by simp)).1 (h d (by simp)).2).2.2;obtain ⟨b1,b2,b3⟩:=zeZ hw names az ds (b.zhw (Th.texts a.2++names).reverse (wk d 0)).1 (l++[(a.1,a.2.length,(b.zhw (Th.texts a.2++names).reverse (wk d 0)).2)]) (fun y hy=>h y (by simp[hy]));rw[armsOf];refine ⟨?_,b2,b3⟩;rw[zx6,zx9];simp only[Bs.zhw,zxP,zxW]at b1 h1 ⊢;omega
theorem jc8{α:Type}(l xs:List α)(y:α):Go.splice (l++List.replicate xs.length y) l.length xs=l++xs:=by
 unfold Go.splice;simp
theorem zci(l:List Th.Tok):(Th.texts l).length=l.length:=by simp[Th.texts]
def zdo (wk:Th.Ex->Nat->Bs->Bs) (fr:Th.Ex->List Nm) (fns:List Nm) (e:Th.Ex) (ps:List Th.Ex) (b:Bs):Bs:=
 if e.kind=8 then
  let r:=makeAll wk fr ps { b with zac:=b.zac++Th.texts e.names } []
  zbe fns b.zac.length r.2 r.1
 else
  let b1:=ps.foldl (zaI wk fr fns) b
  { b1 with zac:=Go.splice b1.zac b.zac.length (Th.texts e.names) }
variable {d:Th.Ex}
theorem zes{fr:Th.Ex->List Nm}{fns:List Nm}{ps:List Th.Ex}(hk:e.kids=d::ps)(b:Bs):zkm wk fr fns e b=wk d 0 (zdo wk fr fns e ps b):=by
 unfold zkm zdo;rw[hk];simp only;split
 ·rfl
 ·rfl
theorem zdX(hw:zb7 M N wk)(fns:List Nm){ps:List Th.Ex}(hk:e.kids=d::ps)(hl:ps.length=e.names.length)(b:Bs)(hd:Dp N e)(hm:wt N e<=M):
  (zdo wk (free N) fns e ps b).blocks.length<=b.blocks.length+8*(ps.map (wt N)).sum/\(zdo wk (free N) fns e ps b).zac=b.zac++Th.texts e.names/\(zdo wk (free N) fns e ps b).code.length<=b.code.length+(M+8)*e.names.length:=by
 have hps:∀ x∈ps,Dp N x/\wt N x<=M:=fun x hx=>⟨hd.kid (by simp[hk,hx]),by have:=hd.zgV (k:=x) (by simp[hk,hx]);omega⟩
 unfold zdo;have hmul:(M+8)*e.names.length=(M+1)*e.names.length+7*e.names.length:=by rw[<-Nat.add_mul]
 split
 ·obtain ⟨a1,a2,a3,a4,a5⟩:=zgP hw ps { b with zac:=b.zac++Th.texts e.names } [] hps (by simp);obtain ⟨b1,b2,b3⟩:=zka (M:=M) fns (makeAll wk (free N) ps { b with zac:=b.zac++Th.texts e.names } []).2 b.zac.length (makeAll wk (free N) ps { b with zac:=b.zac++Th.texts e.names } []).1 a5;simp only;refine ⟨by rw[b1];exact a1,by rw[b2,a2],?_⟩;have hlen:(makeAll wk (free N) ps { b with zac:=b.zac++Th.texts e.names } []).2.length=e.names.length:=by rw[a4];simp[hl]
  rw[hlen]at b3;rw[hl]at a3;simp only at a3;omega
 ·obtain ⟨a1,a2,a3⟩:=zcb hw fns ps b hps;simp only;refine ⟨a1,?_,?_⟩
  ·rw[a2,hl,<-zci e.names,jc8]
  ·rw[hl]at a3;omega
def zbn (q:Bs) (names:List Nm) (e:Th.Ex):Bs:=⟨q.blocks++[(2,[.comp ⟨e.tok.s.toArray⟩,.enter])],([]::names).reverse++[[]]++[[]],[.zbV,.push (([]::names).reverse.length-1),.wait q.blocks.length]⟩
theorem zhI{fr:Th.Ex->List Nm}(fns:List Nm)(n below:Nat)(q:Bs){l r:Th.Ex}(h6:e.kind=6)(hk:e.kids=[l,r]):work fr fns (n+1) e below q =
  work fr fns n l (below+(zai q.zac (fr r)).length+1) ((Bs.zak fns ⟨(work fr fns n r 2 (zbn q (zai q.zac (fr r)) e)).blocks++[((zai q.zac (fr r)).length+1,(work fr fns n r 2 (zbn q (zai q.zac (fr r)) e)).code)],q.zac,q.code⟩ (zai q.zac (fr r))).push (.wait (work fr fns n r 2 (zbn q (zai q.zac (fr r)) e)).blocks.length)):=by
 have hl:([]::zai q.zac (fr r)).reverse.length=(zai q.zac (fr r)).length+1:=by simp
 rw[work,if_neg (by omega),if_pos h6,hk,<-hl];rfl
theorem zeT{fr:Th.Ex->List Nm}(fns:List Nm)(n below:Nat)(q:Bs){s:Th.Ex}{ds:List Th.Ex}(h9:e.kind=9)(hk:e.kids=s::ds){names:List Nm}(hn:names=zai q.zac (zas fr e.zao ds [])){ao:Bs × List (Nat × Nat × Nat)}(ha:ao=armsOf (work fr fns n) names e.zao ds ⟨q.blocks,([]::names).reverse,[]⟩ []):work fr fns (n+1) e below q =
  work fr fns n s (below+names.length+1) ((Bs.zak fns ⟨ao.1.blocks++[(names.length+1,ao.1.code++[.choose ao.2])],q.zac,q.code⟩ names).push (.wait ao.1.blocks.length)):=by
 have hl:([]::names).reverse.length=names.length+1:=by simp
 rw[work,if_neg (by omega),if_neg (by omega),if_pos h9,hk,<-hl,ha,hn];rfl
theorem zaH(M N:Nat)(fns:List Nm):∀ n:Nat,zb7 M N (work (free N) fns n)
 |0=>fun e below q hd hm=>by
  have:=hd.pos;rw[work];exact ⟨by omega,by omega,by omega⟩
 |n+1=>fun e below q hd hm=>by
  have ih:=zaH M N fns n;have hp:=hd.pos;have hwt:=hd.wt;have hlen:=zaZ N e;have hheld:=zbd q.zac (free N e);have hK:M+8<=(M+8)*wt N e:=zyQ _ hp;have hwl:=hd.zd4;have hlo:=hwl.lo;have hhi:=hwl.hi;unfold Cost;by_cases h5:e.kind=5
  ·obtain ⟨f,a,hk⟩:=hwl.k5 (.inl h5);rw[work];simp only[h5,if_true];obtain ⟨s1,s2,s3⟩:=ze2 (n+1) e hd;have s4:=ja8 (m:=n) hk;generalize spread (n+1) e=s at s1 s2 s3 s4 ⊢;obtain ⟨fe,es⟩:=s;simp only at s1 s2 s3 s4 ⊢;have hes:∀ x∈es.reverse,Dp N x/\wt N x<=M:=fun x hx=>⟨s3 x (by simpa using hx),by have:=zbh (f:=wt N) (x:=x) (l:=es) (by simpa using hx);omega⟩
   obtain ⟨a1,a2,a3⟩:=zcb ih fns es.reverse q hes;generalize es.reverse.foldl (zaI (work (free N) fns n) (free N) fns) q=b1 at a1 a2 a3 ⊢;obtain ⟨c1,c2,c3⟩:=ih fe (below+es.length+1) (b1.push (.zbD es.length)) s2 (by omega);simp only[Bs.push,zxP,zxW]at c1 c2 c3 ⊢;have hsum:(es.reverse.map (wt N)).sum=(es.map (wt N)).sum:=by rw[List.map_reverse,List.sum_reverse]
   rw[hsum]at a1;have a2l:b1.zac.length=q.zac.length+es.length:=by rw[a2];simp
   rw[zx0]at a3;have hmul:(M+8)*(wt N fe+es.length+1)<=(M+8)*wt N e:=zyl _ (by
    have:1<=(es.map (wt N)).sum:=by
     cases es with
     |nil=>simp at s4
     |cons x es=>have:=(s3 x (by simp)).pos;simp;omega
    omega)
   rw[zyE,zyE]at hmul;have hm2:(M+1)*es.length<=(M+8)*es.length:=Nat.mul_le_mul_right _ (by omega);have hm3:es.length<=(M+8)*es.length:=zyS _ (by omega);exact ⟨by omega,by omega,by omega⟩
  ·by_cases h6:e.kind=6
   ·obtain ⟨l,r,hk⟩:=hwl.k5 (.inr h6);rw[zhI fns n below q h6 hk];have hl:=hd.kid (k:=l) (by simp[hk]);have hr:=hd.kid (k:=r) (by simp[hk]);rw[hk]at hwt;simp at hwt;have hrl:=zaZ N r;have hrh:=zbd q.zac (free N r);have h1:=(ih r 2 (zbn q (zai q.zac (free N r)) e) hr (by omega)).2.2;have hri:(zbn q (zai q.zac (free N r)) e).blocks.length=q.blocks.length+1:=by simp[zbn]
    rw[hri]at h1;clear hri;generalize zai q.zac (free N r)=names at hrh h1 ⊢;generalize work (free N) fns n r 2 (zbn q names e)=R at h1 ⊢;obtain ⟨c,u1,u2⟩:=zdZ fns ⟨R.blocks++[(names.length+1,R.code)],q.zac,q.code⟩ names;rw[u1];simp only[Bs.push];obtain ⟨d1,d2,d3⟩:=ih l (below+names.length+1) ⟨R.blocks++[(names.length+1,R.code)],q.zac++List.replicate names.length []++[[]],q.code++c++[.wait R.blocks.length]⟩ hl (by omega);have hmul:(M+8)*(wt N l+1)<=(M+8)*wt N e:=zyl _ (by omega);rw[zyE]at hmul;simp only[zxP,zxW,zyt]at d1 d2 d3;exact ⟨by omega,by omega,by omega⟩
   ·by_cases h9:e.kind=9
    ·obtain ⟨hne,s,ds,hk,hdl⟩:=hwl.k9 h9;have hs:=hd.kid (k:=s) (by simp[hk]);have hds:∀ x∈ds,Dp N x/\wt N x<=M:=fun x hx=>⟨hd.kid (by simp[hk,hx]),by have:=hd.zgV (k:=x) (by simp[hk,hx]);omega⟩
     rw[hk]at hwt;simp at hwt;have hal:=zbP (free N) (wt N) (zaZ N) e.zao ds [];have hah:=zbd q.zac (zas (free N) e.zao ds []);obtain ⟨names,hnn⟩:∃ names,names=zai q.zac (zas (free N) e.zao ds []):=⟨_,rfl⟩;rw[<-hnn]at hah;obtain ⟨ao,hao⟩:∃ ao,ao=armsOf (work (free N) fns n) names e.zao ds ⟨q.blocks,([]::names).reverse,[]⟩ []:=⟨_,rfl⟩;obtain ⟨a1,a2,a3⟩:=zeZ ih names e.zao ds ⟨q.blocks,([]::names).reverse,[]⟩ [] hds;rw[<-hao]at a1;rw[zeT fns n below q h9 hk hnn hao];obtain ⟨c,u1,u2⟩:=zdZ fns ⟨ao.1.blocks++[(names.length+1,ao.1.code++[.choose ao.2])],q.zac,q.code⟩ names;rw[u1];simp only[Bs.push];obtain ⟨d1,d2,d3⟩:=ih s (below+names.length+1) ⟨ao.1.blocks++[(names.length+1,ao.1.code++[.choose ao.2])],q.zac++List.replicate names.length []++[[]],q.code++c++[.wait ao.1.blocks.length]⟩ hs (by omega);have hmul:(M+8)*(wt N s+1)<=(M+8)*wt N e:=zyl _ (by omega);rw[zyE]at hmul;simp only[zxP,zxW,zyt,zyi,zyC]at d1 d2 d3 hal;simp only at a1;exact ⟨by omega,by omega,by omega⟩
    ·by_cases h7:e.kind=7\/e.kind=8
     ·obtain ⟨hne,d,ps,hk,hpl⟩:=hwl.k7 h7;rw[work];simp only[h5,h6,h9,h7,if_false,if_true];have hdd:=hd.kid (k:=d) (by simp[hk]);rw[hk]at hwt;simp at hwt;have hmul:(M+8)*(wt N d+e.names.length)<=(M+8)*wt N e:=zyl _ (by omega);rw[zyE]at hmul;have hnl:e.names.length<=(M+8)*e.names.length:=zyS _ (by omega);split
      ·rw[zes hk];obtain ⟨a1,a2,a3⟩:=zdX ih fns hk hpl q hd hm;obtain ⟨d1,d2,d3⟩:=ih d 0 (zdo (work (free N) fns n) (free N) fns e ps q) hdd (by omega);rw[a2,zxP,zci]at d2;exact ⟨by omega,by omega,by omega⟩
      ·simp only[Bs.zhw,Bs.ends,Bs.write];obtain ⟨c,u1,u2⟩:=zdZ fns q (zai q.zac (free N e));rw[u1];simp only;rw[zes hk];obtain ⟨a1,a2,a3⟩:=zdX ih fns hk hpl ⟨q.blocks,(zai q.zac (free N e)).reverse,[]⟩ hd hm;obtain ⟨d1,d2,d3⟩:=ih d 0 (zdo (work (free N) fns n) (free N) fns e ps ⟨q.blocks,(zai q.zac (free N e)).reverse,[]⟩) hdd (by omega);simp only at a1;simp only[zxP,zxW,zyt];exact ⟨by omega,by omega,by omega⟩
     ·rw[work];simp only[h5,h6,h9,h7,if_false];obtain ⟨bl,c,k1,_,k2,k3⟩:=jcE (work (free N) fns n) (free N) fns q e;rw[k1];simp only[Bs.ends,Bs.write,zxP,zxW];refine ⟨by omega,by omega,?_⟩;rcases k3 with k3|⟨i1,i2,k3⟩
      ·rw[k3];omega
      ·rw[k3];have hki:e.kind=3\/e.kind=4:=by omega
       unfold zal Bs.zhw;rcases hki with h3|h4
       ·simp only[h3,if_true,Bs.write];simp;omega
       ·obtain ⟨_,d,hk⟩:=hwl.k4 h4;have hdd:=hd.kid (k:=d) (by simp[hk]);have h2:=hd.zgV (k:=d) (by simp[hk]);simp only[h4,if_true,hk];have h3:=(ih d 0 ⟨q.blocks,(zai q.zac (free N e)++Th.texts e.names).reverse,[]⟩ hdd (by omega)).2.2;simp only[zxP,zxW];simp only at h3;omega
end Cp
end Go.Proofs.YtgahgkddaljmkaaGreatDoor
namespace Go.Proofs.YtgahgkddaljmkaaGreatDoor
open Go.RowKit Go.Shelf
variable {M N:Nat}
variable {fns:List Cp.Nm}
variable {q:Cp.Bs}
variable {e:Th.Ex}
theorem Fit.prod(h:Fit M N fns q e):(M+8)*Cp.wt N e<=25040000:=by
 have h1:=h.wt;have h2:=h.mm;exact zxN (Nat.mul_le_mul (show M+8<=5008 by omega) (show Cp.wt N e<=5000 by omega)) (by decide)
theorem Fit.len(h:Fit M N fns q e):(Cp.free N e).length<=5000:=by
 have h1:=h.wt;have h2:=h.mm;have:=Cp.zaZ N e;omega
theorem Fit.hlen(h:Fit M N fns q e)(sl:List Cp.Nm):(Cp.zai sl (Cp.free N e)).length<=5000:=zxN (Cp.zbd _ _) h.len
theorem Fit.hin(h:Fit M N fns q e)(sl:List Cp.Nm):∀ x∈Cp.zai sl (Cp.free N e),x≠[]/\(Cp.za8 q.zac x=none->x∈fns):=fun x hx=>by
 obtain ⟨h1,h2⟩:=h.nm x (Cp.zbG.1 hx).1;refine ⟨h1,fun hs=>?_⟩;rcases h2 with h2|h2
 ·exact absurd h2 (Cp.zb6.1 hs)
 ·exact h2
theorem Fit.susp(h:Fit M N fns q e):Fit M N fns ⟨q.blocks,(Cp.zai q.zac (Cp.free N e)).reverse,[]⟩ e:=by
 have hp:=h.prod;have hl:=h.hlen q.zac;refine ⟨h.dp,h.wt,h.mm,h.fl,fun x hx=>?_,by simp;omega,by simp;omega,h.bl⟩;obtain ⟨h1,h2⟩:=h.nm x hx;refine ⟨h1,?_⟩;rcases h2 with h2|h2
 ·exact .inl (by simp[Cp.zbG,hx,h2])
 ·exact .inr h2
variable {d:Th.Ex}
theorem Fit.lam(h:Fit M N fns q e)(h4:e.kind=4)(hk:e.kids=[d]):Fit M N fns ⟨q.blocks,(Cp.zai q.zac (Cp.free N e)++Th.texts e.names).reverse,[]⟩ d/\(Cp.zai q.zac (Cp.free N e)).length+e.names.length<=10000:=by
 have hp:=h.prod;have hl:=h.hlen q.zac;have hw:=h.wt;have hm:=h.mm;have hbl:=h.bl;have hk1:=h.dp.zgV (k:=d) (by simp[hk]);have hkm:(M+8)*Cp.wt N d<=(M+8)*Cp.wt N e:=zyl _ (by omega);have hn:e.names.length<=5000:=by have:=h.dp.wt;omega
 have hfr:=h.dp.free;rw[hk]at hfr;simp only[h4]at hfr;simp at hfr;have ht:=Cp.zci e.names;refine ⟨⟨h.dp.kid (by simp[hk]),by omega,h.mm,h.fl,fun x hx=>?_,by simp;omega,by simp;omega,by simp only;omega⟩,by omega⟩;by_cases hxn:x∈Th.texts e.names
 ·have hne:x≠[]:=by
   obtain ⟨t,h1,h2⟩:=zyW.1 hxn;rw[<-h2];exact h.dp.zd4.nm t h1
  exact ⟨hne,.inl (by simp[hxn])⟩
 ·have hxe:x∈Cp.free N e:=by rw[hfr];exact Cp.zaL.2 ⟨hx,hxn⟩
  obtain ⟨h1,h2⟩:=h.nm x hxe;refine ⟨h1,?_⟩;rcases h2 with h2|h2
  ·exact .inl (by simp[Cp.zbG,hxe,h2])
  ·exact .inr h2
variable {fr:Th.Ex->List Cp.Nm}
theorem Cp.jbC{wk:Th.Ex->Nat->Cp.Bs->Cp.Bs}(q:Cp.Bs)(h3:e.kind≠3)(h4:e.kind≠4):Cp.zal wk fr q e=(⟨(wk e 0 ⟨q.blocks,(Cp.zai q.zac (fr e)).reverse,[]⟩).blocks++[((Cp.zai q.zac (fr e)).reverse.length,(wk e 0 ⟨q.blocks,(Cp.zai q.zac (fr e)).reverse,[]⟩).code)],q.zac,q.code⟩,(wk e 0 ⟨q.blocks,(Cp.zai q.zac (fr e)).reverse,[]⟩).blocks.length,Cp.zai q.zac (fr e)):=by
 unfold Cp.zal Cp.Bs.zhw;simp only[if_neg h4,if_neg h3]
variable {n:Nat}
variable {Z:Nat->Prop}
variable {w:World}
variable {cb bb:Nat}
variable {rv sv kv v:Value}
theorem jdT(hW:zbg M N n)(h:BS Z w cb bb rv sv kv fns q)(hr:Rep Z w n v e)(hf:Fit M N fns q e):
  ∀ W nv,Fr (fun _=>False) w W->Names w.heap.size W nv (Cp.zai q.zac (Cp.free N e))->Calls Tryz.prog 161 #[.pointer (some ⟨cb,0,none⟩),v,nv] W fun r w'=>r=.returned (.int .i64 (Cp.work (Cp.free N) fns n e 0 ⟨q.blocks,(Cp.zai q.zac (Cp.free N e)).reverse,[]⟩).blocks.length) /\
   zfO (fun k=>Z k\/nv.ownBlock=some k) W cb rv fns ((Cp.work (Cp.free N) fns n e 0 ⟨q.blocks,(Cp.zai q.zac (Cp.free N e)).reverse,[]⟩).blocks++[((Cp.zai q.zac (Cp.free N e)).reverse.length,(Cp.work (Cp.free N) fns n e 0 ⟨q.blocks,(Cp.zai q.zac (Cp.free N e)).reverse,[]⟩).code)]) w':=by
 intro W nv fW hnv;have hc:=(Cp.zaH M N fns n e 0 ⟨q.blocks,(Cp.zai q.zac (Cp.free N e)).reverse,[]⟩ hf.dp hf.wt).2.2;have hbl:=hf.bl;have hl:=hf.hlen q.zac;exact zkR hW (h.zpG fW hnv).cs (hr.frz fW (by simp) (fun _ _ x=>.inl x)) ⟨hnv.1,fun k hk=>.inr hk⟩ hf.susp (by omega) (by simp only at hc;omega)
theorem Cp.jbD{wk:Th.Ex->Nat->Cp.Bs->Cp.Bs}(q:Cp.Bs)(h4:e.kind=4)(hk:e.kids=[d]):Cp.zal wk fr q e=(⟨(wk d 0 ⟨q.blocks,(Cp.zai q.zac (fr e)++Th.texts e.names).reverse,[]⟩).blocks++[((Cp.zai q.zac (fr e)++Th.texts e.names).reverse.length,(wk d 0 ⟨q.blocks,(Cp.zai q.zac (fr e)++Th.texts e.names).reverse,[]⟩).code)],q.zac,q.code⟩,(wk d 0 ⟨q.blocks,(Cp.zai q.zac (fr e)++Th.texts e.names).reverse,[]⟩).blocks.length,Cp.zai q.zac (fr e)):=by
 unfold Cp.zal Cp.Bs.zhw;simp only[if_pos h4,hk]
theorem Cp.jb1{wk:Th.Ex->Nat->Cp.Bs->Cp.Bs}(q:Cp.Bs)(h3:e.kind=3):Cp.zal wk fr q e=(⟨q.blocks++[((List.replicate e.arity ([]:Cp.Nm)).length,[.pack e.tag e.arity,.enter])],q.zac,q.code⟩,q.blocks.length,Cp.zai q.zac (fr e)):=by
 unfold Cp.zal Cp.Bs.zhw;have h4:¬ e.kind=4:=by omega
 simp only[if_neg h4,if_pos h3];rfl
abbrev znq (_M N n:Nat) (Z:Nat->Prop) (w:World) (cb bb:Nat) (rv sv kv v:Value) (fns:List Cp.Nm) (q:Cp.Bs) (e:Th.Ex):Prop:=
 Calls Tryz.prog 165 #[.pointer (some ⟨bb,0,none⟩),v] w fun r w'=>∃ nv,r=.returned (.tuple #[.int .i64 (Cp.zal (Cp.work (Cp.free N) fns n) (Cp.free N) q e).2.1,nv])/\znQ Z w cb bb rv sv kv fns (Cp.zal (Cp.work (Cp.free N) fns n) (Cp.free N) q e).1 w' nv (Cp.zai q.zac (Cp.free N e))
theorem ja2(hW:zbg M N n)(hn:n+1<=N)(h:BS Z w cb bb rv sv kv fns q)(hr:Rep Z w (n+1) v e)(hf:Fit M N fns q e)(hk34:e.kind=3\/e.kind=4):znq M N n Z w cb bb rv sv kv v fns q e:=by
 have hw:=hf.wt;have hm:=hf.mm;have hfr:=zhe N (hr.le hn) (by omega);have hl1:=hf.len;have hsl:=hf.sl;have hbl:=hf.bl;have hn0:=hf.hlen q.zac;unfold znq;rcases hr with ⟨hk,rfl⟩|⟨hk,rfl⟩|⟨hk,rfl⟩|⟨hk,sv1,bv,b,k1,rfl,k3,k4⟩|⟨hk,u1,u2,d1,d2,k1,rfl,k3,k4⟩|⟨hk,u1,u2,d1,d2,k1,rfl,k3,k4⟩|⟨hk,sv1,bv,b,parts,pvs,k1,rfl,k3,k4,k5,k6,k7⟩|⟨hk,cv,sv1,b,bodies,nvs,bvs,k1,rfl,k3,k4,k5,k6,k7,k8,k9⟩
 ·omega
 ·omega
 ·rw[Cp.jb1 q hk];refine zml h hfr rfl (by omega) (by omega) (fun W nv fW hnv=>?_);exact zrp rfl (h.zpG fW hnv).cs (by omega) (by have:=hf.dp.zd4.ar;omega)
 ·rw[Cp.jbD q hk k1];obtain ⟨hfl,hnn⟩:=hf.lam hk k1;have hc:=(Cp.zaH M N fns n b 0 ⟨q.blocks,(Cp.zai q.zac (Cp.free N e)++Th.texts e.names).reverse,[]⟩ hfl.dp hfl.wt).2.2;have hbl2:=hfl.bl;obtain ⟨pp,pn,pc,rfl⟩:=zae k3;obtain ⟨bt,bx,rfl⟩:=zah k4;refine zkK h hfr rfl (by omega) (by omega) (fun W nv fW hnv=>?_);exact zrK hW rfl rfl (h.zpG fW hnv).cs (k4.frz fW (by simp) (fun _ _ x=>.inl x)) (k3.frz fW (by simp) (fun _ _ x=>.inl x)) ⟨hnv.1,fun k hk=>.inr hk⟩ hfl (by omega) (by simp only at hc hbl2;omega)
 all_goals omega
theorem zeO(hW:zbg M N n)(hn:n+1<=N)(h:BS Z w cb bb rv sv kv fns q)(hr:Rep Z w n v e)(hf:Fit M N fns q e):znq M N n Z w cb bb rv sv kv v fns q e:=by
 by_cases hk34:e.kind=3\/e.kind=4
 ·exact ja2 hW hn h (hr.le (zy4 n)) hf hk34
 have hw:=hf.wt;have hm:=hf.mm;have hfr:=zhe N (hr.le (Nat.le_of_succ_le hn)) (by omega);have hl1:=hf.len;have hsl:=hf.sl;have hsu:=jdT hW h hr hf;unfold znq;rw[Cp.jbC q (fun e=>hk34 (.inl e)) (fun e=>hk34 (.inr e))];cases n with
 |zero=>exact hr.elim
 |succ n=>
  rcases hr with ⟨hk,rfl⟩|⟨hk,rfl⟩|⟨hk,rfl⟩|⟨hk,sv1,bv,b,k1,rfl,k3,k4⟩|⟨hk,u1,u2,d1,d2,k1,rfl,k3,k4⟩|⟨hk,u1,u2,d1,d2,k1,rfl,k3,k4⟩|⟨hk,sv1,bv,b,parts,pvs,k1,rfl,k3,k4,k5,k6,k7⟩|⟨hk,cv,sv1,b,bodies,nvs,bvs,k1,rfl,k3,k4,k5,k6,k7,k8,k9⟩
  ·exact zkl h hfr rfl (by omega) (by omega) hsu
  ·exact zoR h hfr rfl (by omega) (by omega) hsu
  ·omega
  ·omega
  ·exact znp h hfr rfl (by omega) (by omega) hsu
  ·exact zhM h hfr rfl (by omega) (by omega) hsu
  ·exact zo3 h hfr rfl (by omega) (by omega) hsu
  ·exact znu h hfr rfl (by omega) (by omega) hsu
abbrev jcN (_M N n:Nat) (Z:Nat->Prop) (w:World) (cb bb:Nat) (rv sv kv v:Value) (fns:List Cp.Nm) (q:Cp.Bs) (e:Th.Ex):Prop:=
 Calls Tryz.prog 95 #[.pointer (some ⟨bb,0,none⟩),v] w fun r w'=>r=.returned (.tuple #[])/\Did Z w cb bb rv sv kv fns (Cp.zaI (Cp.work (Cp.free N) fns n) (Cp.free N) fns q e) w'
theorem Cp.jaU{wk:Th.Ex->Nat->Cp.Bs->Cp.Bs}(q:Cp.Bs)(h1:e.kind≠1)(h2:e.kind≠2)(h3:¬ (e.kind=3/\e.arity=0)):Cp.zaI wk fr fns q e=(((Cp.zal wk fr q e).1.zak fns (Cp.zai q.zac (fr e))).drop (Cp.zai q.zac (fr e)).length).push (.close (Cp.zal wk fr q e).2.1 (Cp.zai q.zac (fr e)).length):=by
 unfold Cp.zaI;simp only[if_neg h2,if_neg h1,if_neg h3];rfl
theorem Cp.zcj(wk:Th.Ex->Nat->Cp.Bs->Cp.Bs)(fr:Th.Ex->List Cp.Nm)(q:Cp.Bs)(e:Th.Ex):(Cp.zal wk fr q e).1.zac=q.zac/\(Cp.zal wk fr q e).1.code=q.code:=by
 obtain ⟨bl,h⟩:=Cp.zfr wk fr q e;rw[h];exact ⟨rfl,rfl⟩
theorem jc2(hW:zbg M N n)(hn:n+1<=N)(h:BS Z w cb bb rv sv kv fns q)(hr:Rep Z w (n+1) v e)(hf:Fit M N fns q e)(hk14:e.kind<=4):jcN M N n Z w cb bb rv sv kv v fns q e:=by
 have hw:=hf.wt;have hm:=hf.mm;have hl1:=hf.len;have hsl:=hf.sl;have hcl:=hf.cl;have hfl:=hf.fl;have hn0:=hf.hlen q.zac;have hp:=hf.dp.pos;have hM:M+8<=(M+8)*Cp.wt N e:=zyQ _ hp;have hle:=zxN (Cp.zbd q.zac (Cp.free N e)) (Cp.zaZ N e);have hr0:=hr;unfold jcN;have hcs:=Cp.zcj (Cp.work (Cp.free N) fns n) (Cp.free N) q e;rcases hr with ⟨hk,rfl⟩|⟨hk,rfl⟩|⟨hk,rfl⟩|⟨hk,sv1,bv,b,k1,rfl,k3,k4⟩|⟨hk,u1,u2,d1,d2,k1,rfl,k3,k4⟩|⟨hk,u1,u2,d1,d2,k1,rfl,k3,k4⟩|⟨hk,sv1,bv,b,parts,pvs,k1,rfl,k3,k4,k5,k6,k7⟩|⟨hk,cv,sv1,b,bodies,nvs,bvs,k1,rfl,k3,k4,k5,k6,k7,k8,k9⟩
 ·have he:Cp.zaI (Cp.work (Cp.free N) fns n) (Cp.free N) fns q e=q.push (.num e.n):=by unfold Cp.zaI;rw[if_neg (by omega),if_pos hk]
  rw[he];exact zpv h (by omega) (by omega)
 ·have he:Cp.zaI (Cp.work (Cp.free N) fns n) (Cp.free N) fns q e=q.use fns e.tok.s:=by unfold Cp.zaI;rw[if_pos hk]
  rw[he];have hfr:=hf.dp.free;simp only[hk,if_true]at hfr;obtain ⟨_,h2⟩:=hf.nm e.tok.s (by rw[hfr];simp);refine zu8 h e.tok.s (fun hs=>?_) (by omega) (by omega) (by omega);rcases h2 with h2|h2
  ·exact absurd h2 (Cp.zb6.1 hs)
  ·exact h2
 ·by_cases ha:e.arity=0
  ·have he:Cp.zaI (Cp.work (Cp.free N) fns n) (Cp.free N) fns q e=q.push (.pack e.tag 0):=by unfold Cp.zaI;rw[if_neg (by omega),if_neg (by omega),if_pos ⟨hk,ha⟩]
   rw[he,ha];exact zpD h (by omega) (by omega)
  ·rw[Cp.jaU q (by omega) (by omega) (fun x=>ha x.2)];exact zq6 h (by omega) (fun W fW=>ja2 hW hn (h.fr0 fW) (hr0.fr0 fW) hf (.inl hk)) (by rw[hcs.1];exact hf.hin q.zac) (by rw[hcs.2];omega) (by rw[hcs.1];omega) (by omega)
 ·rw[Cp.jaU q (by omega) (by omega) (fun x=>by omega)];exact zpo h (fun W fW=>ja2 hW hn (h.fr0 fW) (hr0.fr0 fW) hf (.inr hk)) (by rw[hcs.1];exact hf.hin q.zac) (by rw[hcs.2];omega) (by rw[hcs.1];omega) (by omega)
 all_goals omega
theorem zvV(hW:zbg M N n)(hn:n+1<=N)(h:BS Z w cb bb rv sv kv fns q)(hr:Rep Z w n v e)(hf:Fit M N fns q e):jcN M N n Z w cb bb rv sv kv v fns q e:=by
 by_cases hk14:e.kind<=4
 ·exact jc2 hW hn h (hr.le (zy4 n)) hf hk14
 have hw:=hf.wt;have hm:=hf.mm;have hsl:=hf.sl;have hcl:=hf.cl;have hfl:=hf.fl;have hn0:=hf.hlen q.zac;have hp:=hf.dp.pos;have hM:M+8<=(M+8)*Cp.wt N e:=zyQ _ hp;have hle:=zxN (Cp.zbd q.zac (Cp.free N e)) (Cp.zaZ N e);have hcs:=Cp.zcj (Cp.work (Cp.free N) fns n) (Cp.free N) q e;have hr0:=hr;unfold jcN;rw[Cp.jaU q (by omega) (by omega) (fun x=>by omega)];cases n with
 |zero=>exact hr.elim
 |succ n=>
  rcases hr with ⟨hk,rfl⟩|⟨hk,rfl⟩|⟨hk,rfl⟩|⟨hk,sv1,bv,b,k1,rfl,k3,k4⟩|⟨hk,u1,u2,d1,d2,k1,rfl,k3,k4⟩|⟨hk,u1,u2,d1,d2,k1,rfl,k3,k4⟩|⟨hk,sv1,bv,b,parts,pvs,k1,rfl,k3,k4,k5,k6,k7⟩|⟨hk,cv,sv1,b,bodies,nvs,bvs,k1,rfl,k3,k4,k5,k6,k7,k8,k9⟩
  ·omega
  ·omega
  ·omega
  ·omega
  ·exact zr5 h (fun W fW=>zeO hW hn (h.fr0 fW) (hr0.fr0 fW) hf) (by rw[hcs.1];exact hf.hin q.zac) (by rw[hcs.2];omega) (by rw[hcs.1];omega) (by omega)
  ·exact zkr h (fun W fW=>zeO hW hn (h.fr0 fW) (hr0.fr0 fW) hf) (by rw[hcs.1];exact hf.hin q.zac) (by rw[hcs.2];omega) (by rw[hcs.1];omega) (by omega)
  ·exact zvm h (fun W fW=>zeO hW hn (h.fr0 fW) (hr0.fr0 fW) hf) (by rw[hcs.1];exact hf.hin q.zac) (by rw[hcs.2];omega) (by rw[hcs.1];omega) (by omega)
  ·exact zt0 h (fun W fW=>zeO hW hn (h.fr0 fW) (hr0.fr0 fW) hf) (by rw[hcs.1];exact hf.hin q.zac) (by rw[hcs.2];omega) (by rw[hcs.1];omega) (by omega)
theorem Fit.part{b:Cp.Bs}(h:Fit M N fns q e)(hd:Cp.Dp N d)(hw:Cp.wt N d<=Cp.wt N e)(hs:∀ x∈Cp.free N d,x≠[]/\(x∈b.zac\/x∈fns))(h1:b.code.length+(M+8)*Cp.wt N d<=q.code.length+(M+8)*Cp.wt N e)(h2:b.zac.length+(M+8)*Cp.wt N d<=q.zac.length+(M+8)*Cp.wt N e)(h3:b.blocks.length+8*Cp.wt N d<=q.blocks.length+8*Cp.wt N e):Fit M N fns b d:=
 ⟨hd,zxN hw h.wt,h.mm,h.fl,hs,zxN h1 h.cl,zxN h2 h.sl,zxN h3 h.bl⟩
theorem Cp.jaZ{N:Nat}:∀ (m:Nat) (e:Th.Ex),Cp.Dp N e->e.kind=5->(∀ x∈Cp.free N (Cp.spread m e).1,x∈Cp.free N e)/\∀ d∈(Cp.spread m e).2,∀ x∈Cp.free N d,x∈Cp.free N e
 |0,e,h,_=>by simp[Cp.spread]
 |m+1,e,h,h5=>by
  obtain ⟨f,a,hk⟩:=h.zd4.k5 (.inl h5);have hfr:=h.free;rw[hk]at hfr;simp[h5]at hfr;rw[Cp.spread,hk];simp only;split
  ·next hf5=>
   obtain ⟨i1,i2⟩:=Cp.jaZ m f (h.kid (by simp[hk])) hf5;refine ⟨fun x hx=>?_,fun d hd x hx=>?_⟩
   ·rw[hfr];exact Cp.zav.2 (.inl (i1 x hx))
   ·rw[hfr];rcases zyc.1 hd with hd|hd
    ·exact Cp.zav.2 (.inl (i2 d hd x hx))
    ·rw[zya.1 hd]at hx;exact Cp.zav.2 (.inr hx)
  ·refine ⟨fun x hx=>?_,fun d hd x hx=>?_⟩
   ·rw[hfr];exact Cp.zav.2 (.inl hx)
   ·rw[hfr];rw[zya.1 hd]at hx;exact Cp.zav.2 (.inr hx)
theorem Cp.jd0(f:Th.Ex->Nat)(l:List Th.Ex)(k:Nat):((l.drop k).map f).sum<=(l.map f).sum:=by
 have h:(l.map f).sum=((l.take k).map f).sum+((l.drop k).map f).sum:=by rw[<-zy0,<-zy1,zzf]
 omega
theorem zdP(hW:zbg M N n)(hn:n+1<=N){below:Nat}(h:BS Z w cb bb rv sv kv fns q)(hr:Rep Z w (n+1) v e)(hf:Fit M N fns q e)(hb:below+(M+8)*Cp.wt N e<=1000000000)(hk14:e.kind<=4):
  Calls Tryz.prog 54 #[.pointer (some ⟨bb,0,none⟩),v,.int .i64 below] w fun r w'=>r=.returned (.tuple #[])/\Did Z w cb bb rv sv kv fns (Cp.work (Cp.free N) fns (n+1) e below q) w':=by
 have hH:=jc2 hW hn h hr hf hk14;have hsl:=hf.sl;have hcl:=hf.cl;have hp:=hf.dp.pos;have hM:M+8<=(M+8)*Cp.wt N e:=zyQ _ hp;have hc:=(Cp.jb9 (Cp.zaH M N fns n) fns q hf.dp hf.wt).2.2;have he:Cp.work (Cp.free N) fns (n+1) e below q=(Cp.zaI (Cp.work (Cp.free N) fns n) (Cp.free N) fns q e).ends (below+1) .enter:=by
  rw[Cp.work,if_neg (by omega),if_neg (by omega),if_neg (by omega),if_neg (by omega)]
 rw[he];rcases hr with ⟨hk,rfl⟩|⟨hk,rfl⟩|⟨hk,rfl⟩|⟨hk,sv1,bv,b,k1,rfl,k3,k4⟩|⟨hk,u1,u2,d1,d2,k1,rfl,k3,k4⟩|⟨hk,u1,u2,d1,d2,k1,rfl,k3,k4⟩|⟨hk,sv1,bv,b,parts,pvs,k1,rfl,k3,k4,k5,k6,k7⟩|⟨hk,cv,sv1,b,bodies,nvs,bvs,k1,rfl,k3,k4,k5,k6,k7,k8,k9⟩
 ·exact zpI (by omega) (by omega) hH
 ·exact zvf (by omega) (by omega) hH
 ·exact zru (by omega) (by omega) hH
 ·exact zo5 (by omega) (by omega) hH
 all_goals omega
theorem zkh(hN:N<=100000)(hW:zbg M N n)(hn:n+1<=N){below:Nat}{u1 u2:Value}{d1 d2:Th.Ex}(h:BS Z w cb bb rv sv kv fns q)(hk:e.kind=5)(k1:e.kids=[d1,d2])(k3:Rep Z w n u1 d1)(k4:Rep Z w n u2 d2)(hf:Fit M N fns q e)(hb:below+(M+8)*Cp.wt N e<=1000000000):
  Calls Tryz.prog 54 #[.pointer (some ⟨bb,0,none⟩),.iface 163 (.agg #[u1,u2]),.int .i64 below] w fun r w'=>r=.returned (.tuple #[])/\Did Z w cb bb rv sv kv fns (Cp.work (Cp.free N) fns (n+1) e below q) w':=by
 obtain ⟨t1,x1,rfl⟩:=zah k3;obtain ⟨t2,x2,rfl⟩:=zah k4;obtain ⟨s1,s2,s3⟩:=Cp.ze2 (n+1) e hf.dp;obtain ⟨s5,s6⟩:=Cp.jaZ (n+1) e hf.dp hk;have s4:=Cp.ja8 (m:=n) k1;have hsp:=Cp.zox n e d1 d2 _ k1 k3;have hspr:=fun W (fW:Fr (fun _=>False) w W)=>zk8 (Z:=Z) (n:=n) (by omega) n (zxJ _) (w:=W) (fun k hk=>zxO (h.zlt k hk) fW.size) (k3.fr0 fW) (k4.fr0 fW)
 have he:Cp.work (Cp.free N) fns (n+1) e below q=Cp.work (Cp.free N) fns n (Cp.spread (n+1) e).1 (below+(Cp.spread (n+1) e).2.length+1) (((Cp.spread (n+1) e).2.reverse.foldl (Cp.zaI (Cp.work (Cp.free N) fns n) (Cp.free N) fns) q).push (.zbD (Cp.spread (n+1) e).2.length)):=by
  rw[Cp.work,if_pos hk]
 rw[he];rw[<-hsp]at hspr;clear he hsp;generalize Cp.spread (n+1) e=s at s1 s2 s3 s4 s5 s6 hspr ⊢;obtain ⟨fe,es⟩:=s;simp only at s1 s2 s3 s4 s5 s6 hspr ⊢;have hw:=hf.wt;have hm:=hf.mm;have hcl:=hf.cl;have hsl:=hf.sl;have hmul:(M+8)*(Cp.wt N fe+(es.map (Cp.wt N)).sum+es.length)<=(M+8)*Cp.wt N e:=zyl _ s1;rw[zyE,zyE]at hmul;have hmem:∀ x∈es,Cp.Dp N x/\Cp.wt N x<=M:=fun x hx=>⟨s3 x hx,by have:=Cp.zbh (f:=Cp.wt N) hx;omega⟩
 have hpos:1<=(es.map (Cp.wt N)).sum:=by
  cases es with
  |nil=>simp at s4
  |cons x es=>have:=(s3 x (by simp)).pos;simp;omega
 have hK1:M+8<=(M+8)*(es.map (Cp.wt N)).sum:=zyQ _ hpos;have hm2:(M+1)*es.length<=(M+8)*es.length:=Nat.mul_le_mul_right _ (by omega);have hm3:es.length<=(M+8)*es.length:=zyS _ (by omega);obtain ⟨a1,a2,a3⟩:=Cp.zcb (Cp.zaH M N fns n) fns es.reverse q (fun x hx=>hmem x (by simpa using hx));have hsum:(es.reverse.map (Cp.wt N)).sum=(es.map (Cp.wt N)).sum:=by rw[List.map_reverse,List.sum_reverse]
 rw[hsum]at a1;rw[zx0]at a3;have a2l:(es.reverse.foldl (Cp.zaI (Cp.work (Cp.free N) fns n) (Cp.free N) fns) q).zac.length=q.zac.length+es.length:=by rw[a2];simp
 refine ztQ (fun W fW=>ztM hW (h.fr0 fW) (fun W2 fW2=>hspr W2 (fW.trans fW2)) ?_ (by omega) (by omega) (by omega) ?_ (by omega))
 ·intro i e' Z1 W1 rv1 sv1 kv1 v he' hi hb1 hr1;refine zvV hW hn hb1 hr1 ?_;have hm':=zxX he';have hlt:es.length-(i+1)<es.length:=by omega
  have hdrop:es.drop (es.length-(i+1))=e'::es.drop (es.length-i):=by
   rw[zyn hlt,show es.length-(i+1)+1=es.length-i by omega];rw[zxI hlt]at he';cases he';rfl
  have hsd:=Cp.jd0 (Cp.wt N) es (es.length-(i+1));rw[hdrop,zx6,zx9]at hsd;obtain ⟨b1,b2,b3⟩:=Cp.zcb (Cp.zaH M N fns n) fns (es.drop (es.length-i)).reverse q (fun x hx=>hmem x (List.mem_of_mem_drop (by simpa using hx)));have hsum2:((es.drop (es.length-i)).reverse.map (Cp.wt N)).sum=((es.drop (es.length-i)).map (Cp.wt N)).sum:=by rw[List.map_reverse,List.sum_reverse]
  rw[hsum2]at b1;have hdl:(es.drop (es.length-i)).reverse.length=i:=by simp;omega
  rw[hdl]at b2 b3;have hi2:(M+1)*i<=(M+8)*es.length:=Nat.mul_le_mul (by omega) (by omega);have hi3:(M+8)*Cp.wt N e'<=(M+8)*(es.map (Cp.wt N)).sum:=zyl _ (by omega);refine hf.part (s3 e' hm') (by omega) (fun x hx=>?_) (by omega) (by rw[b2];simp;omega) (by omega);obtain ⟨c1,c2⟩:=hf.nm x (s6 e' hm' x hx);refine ⟨c1,?_⟩;rw[b2];rcases c2 with c2|c2
  ·exact .inl (by simp[c2])
  ·exact .inr c2
 ·refine hf.part s2 (by omega) (fun x hx=>?_) (by simp only[Cp.Bs.push,zxP,zxW];omega) (by simp only[Cp.Bs.push,zxP,zxW];omega) (by simp only[Cp.Bs.push];omega);obtain ⟨c1,c2⟩:=hf.nm x (s5 x hx);refine ⟨c1,?_⟩;simp only[Cp.Bs.push];rw[a2];rcases c2 with c2|c2
  ·exact .inl (by simp[c2])
  ·exact .inr c2
end Go.Proofs.YtgahgkddaljmkaaGreatDoor
