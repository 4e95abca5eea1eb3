/- Cmp46 .. Cmp48 -/
import Derived.Test.YtgahgkddaljmkaaGreatDoorV27
import Derived.Test.YtgahgkddaljmkaaGreatDoorV21
import Derived.Test.YtgahgkddaljmkaaGreatDoorV26
import Derived.Test.YtgahgkddaljmkaaGreatDoorV1
set_option maxRecDepth 100000
set_option maxHeartbeats 4000000
namespace Go.Proofs.YtgahgkddaljmkaaGreatDoor
namespace Cp
def zrc:Ins->Prop
 |.choose zao=>zao.length<=5000
 |_=>True
def zrL (b:Nat × List Ins):Prop:=b.1<=20000/\b.2≠[]/\b.2.length<=1000000000/\∀ i∈b.2,zrc i
def Ext (q q':Bs):Prop:=(∃ bl,q'.blocks=q.blocks++bl/\∀ b∈bl,zrL b)/\∃ c,q'.code=q.code++c/\∀ i∈c,zrc i
theorem Ext.refl(q:Bs):Ext q q:=⟨⟨[],by simp,by simp⟩,[],by simp,by simp⟩
variable {a b:Bs}
theorem Ext.trans{c:Bs}(h:Ext a b)(k:Ext b c):Ext a c:=by
 obtain ⟨⟨l1,e1,g1⟩,c1,d1,i1⟩:=h;obtain ⟨⟨l2,e2,g2⟩,c2,d2,i2⟩:=k;refine ⟨⟨l1++l2,by rw[e2,e1,zye],fun x hx=>?_⟩,c1++c2,by rw[d2,d1,zye],fun x hx=>?_⟩
 ·rcases zyc.1 hx with hx|hx
  ·exact g1 x hx
  ·exact g2 x hx
 ·rcases zyc.1 hx with hx|hx
  ·exact i1 x hx
  ·exact i2 x hx
theorem Ext.code{a b:Bs}(h:Ext a b):a.code.length<=b.code.length:=by
 obtain ⟨_,c,d,_⟩:=h;rw[d];simp
theorem Ext.like{a':Bs}(h:Ext a b)(h1:a'.blocks=a.blocks)(h2:a'.code=a.code):Ext a' b:=by
 obtain ⟨⟨l1,e1,g1⟩,c1,d1,i1⟩:=h;exact ⟨⟨l1,by rw[e1,h1],g1⟩,c1,by rw[d1,h2],i1⟩
theorem Ext.zxv{b':Bs}(h:Ext a b)(h1:b'.blocks=b.blocks)(h2:b'.code=b.code):Ext a b':=by
 obtain ⟨⟨l1,e1,g1⟩,c1,d1,i1⟩:=h;exact ⟨⟨l1,by rw[h1,e1],g1⟩,c1,by rw[h2,d1],i1⟩
theorem zcC(q:Bs)(i:Ins)(hi:zrc i):Ext q (q.push i):=⟨⟨[],by simp[Bs.push],by simp⟩,[i],rfl,by simpa using hi⟩
theorem zcL(q:Bs)(i:Ins)(hi:zrc i):Ext q (q.write i):=⟨⟨[],by simp[Bs.write],by simp⟩,[i],rfl,by simpa using hi⟩
theorem ztn(fns:List Nm)(q:Bs)(x:Nm):Ext q (q.use fns x):=by
 unfold Bs.use;split
 ·exact zcC _ _ trivial
 ·exact zcC _ _ trivial
theorem zp3(fns:List Nm):∀ (l:List Nm) (q:Bs),Ext q (l.foldl (Bs.use fns) q)
 |[],q=>Ext.refl q
 |x::l,q=>(ztn fns q x).trans (zp3 fns l _)
theorem zfm(fns:List Nm)(q:Bs)(l:List Nm):Ext q (q.zak fns l):=zp3 fns _ q
theorem ziU(fns:List Nm)(q:Bs)(l:List Nm):Ext q ((q.zak fns l).drop l.length):=(zfm fns q l).zxv rfl rfl
theorem zmT{sl:List Nm}{wr:Bs->Bs}(h:Ext ⟨b.blocks,sl,[]⟩ (wr ⟨b.blocks,sl,[]⟩))(hne:(wr ⟨b.blocks,sl,[]⟩).code≠[])(hl:(wr ⟨b.blocks,sl,[]⟩).code.length<=1000000000)(hs:sl.length<=20000):Ext b (b.zhw sl wr).1:=by
 obtain ⟨⟨l1,e1,g1⟩,c,d1,i1⟩:=h;refine ⟨⟨l1++[(sl.length,(wr ⟨b.blocks,sl,[]⟩).code)],?_,fun x hx=>?_⟩,[],by simp[Bs.zhw],by simp⟩
 ·simp only[Bs.zhw];rw[e1,zye]
 ·rcases zyc.1 hx with hx|hx
  ·exact g1 x hx
  ·rw[zya.1 hx];refine ⟨hs,hne,hl,fun i hi=>?_⟩;simp only at hi;rw[d1,zx7]at hi;exact i1 i hi
theorem zpT{wk:Th.Ex->Nat->Bs->Bs}(names:List Nm):∀ (az:List (Nat × List Th.Tok)) (ds:List Th.Ex) (b:Bs) (l:List (Nat × Nat × Nat)),(armsOf wk names az ds b l).2.length<=l.length+az.length
 |[],ds,b,l=>by simp[armsOf]
 |_::_,[],b,l=>by simp[armsOf]
 |a::az,d::ds,b,l=>by
  rw[armsOf];have:=zpT (wk:=wk) names az ds (b.zhw (Th.texts a.2++names).reverse (wk d 0)).1 (l++[(a.1,a.2.length,(b.zhw (Th.texts a.2++names).reverse (wk d 0)).2)]);simp only[zxP,zxW]at this;simp only[zx3];omega
def zia (M N n:Nat) (wk:Th.Ex->Nat->Bs->Bs):Prop:=∀ e below q,Dp n e->Dp N e->wt N e<=M->Ext q (wk e below q)/\q.code.length<(wk e below q).code.length
variable {M N:Nat}
variable {e:Th.Ex}
theorem zlU(hM:M<=5000)(hw:wt N e<=M):(M+8)*wt N e<=25040000:=zxN (Nat.mul_le_mul (show M+8<=5008 by omega) (show wt N e<=5000 by omega)) (by decide)
variable {n:Nat}
variable {wk:Th.Ex->Nat->Bs->Bs}
theorem zmO(hM:M<=5000)(hx:zia M N n wk)(hw:zb7 M N wk){sl:List Nm}{below:Nat}(h1:Dp n e)(h2:Dp N e)(h3:wt N e<=M)(hs:sl.length<=20000):Ext b (b.zhw sl (wk e below)).1:=by
 obtain ⟨a1,a2⟩:=hx e below ⟨b.blocks,sl,[]⟩ h1 h2 h3;have a3:=(hw e below ⟨b.blocks,sl,[]⟩ h2 h3).1;have a4:=zlU hM h3;simp only[zyi,zyC]at a2 a3;exact zmT a1 (fun e0=>by rw[e0]at a2;simp at a2) (by omega) hs
theorem zdd(h:Dp N e):e.names.length+1<=wt N e:=by rw[h.wt];omega
theorem zgf(hM:M<=5000)(hx:zia M N n wk)(hw:zb7 M N wk)(b:Bs)(h1:Dp n e\/(e.kind=3\/e.kind=4)/\Dp (n+1) e)(h2:Dp N e)(h3:wt N e<=M):Ext b (zal wk (free N) b e).1:=by
 have hh:=zxN (zbd b.zac (free N e)) (zaZ N e);have hnl:=zdd h2;unfold zal;by_cases h4:e.kind=4
 ·obtain ⟨_,d,hk⟩:=h2.zd4.k4 h4;have hkw:=h2.zgV (k:=d) (by simp[hk]);simp only[h4,if_true,hk];refine zmO hM hx hw ?_ (h2.kid (by simp[hk])) (by omega) (by simp[Th.texts];omega);rcases h1 with h1|⟨_,h1⟩
  ·exact h1.kid (by simp[hk])
  ·exact h1.2 d (by simp[hk])
 ·by_cases h33:e.kind=3
  ·simp only[h33,if_true];have:=h2.zd4.ar;exact zmT (sl:=List.replicate e.arity []) (wr:=fun q=>(q.write (.pack e.tag e.arity)).write .enter) ((zcL _ (.pack e.tag e.arity) trivial).trans (zcL _ .enter trivial)) (by simp[Bs.write]) (by simp[Bs.write]) (by simp;omega)
  ·simp only[h4,h33,if_false];rcases h1 with h1|⟨h,_⟩
   ·exact zmO hM hx hw h1 h2 h3 (by simp;omega)
   ·omega
theorem zm1(hM:M<=5000)(hx:zia M N n wk)(hw:zb7 M N wk)(fns:List Nm)(b:Bs)(h1:Dp n e\/e.kind<=4/\Dp (n+1) e)(h2:Dp N e)(h3:wt N e<=M):Ext b (zaI wk (free N) fns b e):=by
 unfold zaI;split
 ·exact ztn fns b e.tok.s
 ·split
  ·exact zcC _ _ trivial
  ·split
   ·exact zcC _ _ trivial
   ·next k2 k1 k3=>
    have hlo:=h2.zd4.lo;have hc:=zgf hM hx hw b (e:=e) (by
     rcases h1 with h1|⟨h,h1⟩
     ·exact .inl h1
     ·exact .inr ⟨by omega,h1⟩) h2 h3
    exact (hc.trans (ziU fns _ _)).trans (zcC _ _ (by exact trivial))
theorem ze8{M N n:Nat}{wk:Th.Ex->Nat->Bs->Bs}(hM:M<=5000)(hx:zia M N n wk)(hw:zb7 M N wk)(fns:List Nm):∀ (l:List Th.Ex) (b:Bs),(∀ x∈l,Dp n x/\Dp N x/\wt N x<=M)->Ext b (l.foldl (zaI wk (free N) fns) b)
 |[],b,_=>Ext.refl b
 |x::l,b,h=>by
  obtain ⟨h1,h2,h3⟩:=h x (by simp);rw[zyY];exact (zm1 hM hx hw fns b (.inl h1) h2 h3).trans (ze8 hM hx hw fns l _ (fun y hy=>h y (by simp[hy])))
theorem zlX{M N n:Nat}{wk:Th.Ex->Nat->Bs->Bs}(hM:M<=5000)(hx:zia M N n wk)(hw:zb7 M N wk):∀ (l:List Th.Ex) (b:Bs) (a:List (List Nm)),(∀ x∈l,Dp n x/\Dp N x/\wt N x<=M)->Ext b (makeAll wk (free N) l b a).1
 |[],b,_,_=>Ext.refl b
 |x::l,b,a,h=>by
  obtain ⟨h1,h2,h3⟩:=h x (by simp);rw[makeAll];exact ((zgf hM hx hw b (.inl h1) h2 h3).trans (zcL _ _ (by exact trivial))).trans (zlX hM hx hw l _ _ (fun y hy=>h y (by simp[hy])))
theorem zmZ(fns:List Nm):∀ (l:List (List Nm)) (i:Nat) (b:Bs),Ext b (zbe fns i l b)
 |[],_,b=>Ext.refl b
 |x::l,i,b=>by
  rw[zbe];exact ((ziU fns b x).trans (zcL _ _ (by exact trivial))).trans (zmZ fns l (i+1) _)
theorem ziD{M N n:Nat}{wk:Th.Ex->Nat->Bs->Bs}(hM:M<=5000)(hx:zia M N n wk)(hw:zb7 M N wk)(names:List Nm)(hnl:names.length<=10000):∀ (az:List (Nat × List Th.Tok)) (ds:List Th.Ex) (b:Bs) (l:List (Nat × Nat × Nat)),(∀ a∈az,a.2.length<=5000)->(∀ x∈ds,Dp n x/\Dp N x/\wt N x<=M)->Ext b (armsOf wk names az ds b l).1
 |[],ds,b,l,_,_=>by simp only[armsOf];exact Ext.refl b
 |_::_,[],b,l,_,_=>by simp only[armsOf];exact Ext.refl b
 |a::az,d::ds,b,l,ha,h=>by
  obtain ⟨h1,h2,h3⟩:=h d (by simp);have hal:=ha a (by simp);rw[armsOf];exact (zmO hM hx hw h1 h2 h3 (by simp[Th.texts];omega)).trans (ziD hM hx hw names hnl az ds _ _ (fun y hy=>ha y (by simp[hy])) (fun y hy=>h y (by simp[hy])))
theorem zoo(hM:M<=5000)(hx:zia M N n wk)(hw:zb7 M N wk)(fns:List Nm){ps:List Th.Ex}(b:Bs)(h:∀ x∈ps,Dp n x/\Dp N x/\wt N x<=M):Ext b (zdo wk (free N) fns e ps b):=by
 unfold zdo;split
 ·have h1:=zlX hM hx hw ps { b with zac:=b.zac++Th.texts e.names } [] h;exact (h1.like (a':=b) rfl rfl).trans (zmZ fns _ _ _)
 ·exact (ze8 hM hx hw fns ps b h).zxv rfl rfl
theorem ztV(h:Dp N e):∀ a∈e.zao,a.2.length<=wt N e:=fun a ha=>by
 have h1:∀ (l:List (Nat × List Th.Tok)),a∈l->a.2.length<=(l.map fun a=>1+a.2.length).sum:=by
  intro l
  induction l with
  |nil=>simp
  |cons x l ih=>
   intro hm;rw[zx6,zx9];rcases zyk.1 hm with rfl|hm
   ·omega
   ·have:=ih hm;omega
 have:=h1 e.zao ha;rw[h.wt];omega
theorem zsc(h:Dp N e):e.zao.length<=wt N e:=by
 have h1:∀ (l:List (Nat × List Th.Tok)),l.length<=(l.map fun a=>1+a.2.length).sum:=by
  intro l
  induction l with
  |nil=>simp
  |cons x l ih=>rw[zx6,zx9,zx3];omega
 have:=h1 e.zao;rw[h.wt];omega
theorem zjK{n:Nat}:∀ (m:Nat) (e f a:Th.Ex),e.kids=[f,a]->Dp (n+1) e->Dp n (spread (m+1) e).1/\∀ x∈(spread (m+1) e).2,Dp n x
 |0,e,f,a,hk,h=>by
  have h1:=h.2 f (by simp[hk]);have h2:=h.2 a (by simp[hk]);rw[spread,hk];simp only;split
  ·simp[spread,h1,h2]
  ·simp[h1,h2]
 |m+1,e,f,a,hk,h=>by
  have h1:=h.2 f (by simp[hk]);have h2:=h.2 a (by simp[hk]);rw[spread,hk];simp only;split
  ·next hf=>
   obtain ⟨g,b,hk2⟩:=h1.zd4.k5 (.inl hf);obtain ⟨i1,i2⟩:=zjK m f g b hk2 h1.succ;refine ⟨i1,fun x hx=>?_⟩;rcases zyc.1 hx with hx|hx
   ·exact i2 x hx
   ·rw[zya.1 hx];exact h2
  ·simp[h1,h2]
theorem zbx{M:Nat}(N:Nat)(fns:List Nm)(hM:M<=5000):∀ n:Nat,zia M N n (work (free N) fns n)
 |0=>fun _ _ _ h=>h.elim
 |n+1=>fun e below q hn hd hm=>by
  have ih:=zbx N fns hM n;have hc:=zaH M N fns n;have hwl:=hd.zd4;have hlo:=hwl.lo;have hhi:=hwl.hi;have hkid:∀ k∈e.kids,Dp n k/\Dp N k/\wt N k<=M:=fun k hk=>⟨hn.2 k hk,hd.kid hk,by have:=hd.zgV hk;omega⟩
  have hh:=zxN (zbd q.zac (free N e)) (zaZ N e);by_cases h5:e.kind=5
  ·obtain ⟨f,a,hk⟩:=hwl.k5 (.inl h5);rw[work];simp only[h5,if_true];obtain ⟨s1,s2,s3⟩:=ze2 (n+1) e hd;obtain ⟨s4,s5⟩:=zjK (n:=n) n e f a hk hn;generalize spread (n+1) e=s at s1 s2 s3 s4 s5 ⊢;obtain ⟨fe,es⟩:=s;simp only at s1 s2 s3 s4 s5 ⊢;have h1:=ze8 hM ih hc fns es.reverse q (fun x hx=>⟨s5 x (by simpa using hx),s3 x (by simpa using hx),by have:=zbh (f:=wt N) (x:=x) (l:=es) (by simpa using hx);omega⟩);obtain ⟨i1,i2⟩:=ih fe (below+es.length+1) ((es.reverse.foldl (zaI (work (free N) fns n) (free N) fns) q).push (.zbD es.length)) s4 s2 (by omega);have h2:=h1.trans (zcC _ (.zbD es.length) trivial);have:=h2.code;exact ⟨h2.trans i1,by omega⟩
  ·by_cases h6:e.kind=6
   ·obtain ⟨l,r,hk⟩:=hwl.k5 (.inr h6);rw[zhI fns n below q h6 hk];obtain ⟨l1,l2,l3⟩:=hkid l (by simp[hk]);obtain ⟨r1,r2,r3⟩:=hkid r (by simp[hk]);have hnl:=zxN (zbd q.zac (free N r)) (zaZ N r);generalize zai q.zac (free N r)=names at hnl ⊢;obtain ⟨i1,i2⟩:=ih r 2 (zbn q names e) r1 r2 r3;have j1:=(hc r 2 (zbn q names e) r2 r3).1;have j2:=zlU hM r3;have hri:(zbn q names e).code.length=3:=by simp[zbn]
    rw[hri]at i2 j1;generalize work (free N) fns n r 2 (zbn q names e)=R at i1 i2 j1 ⊢;have h1:Ext q ⟨R.blocks++[(names.length+1,R.code)],q.zac,q.code⟩:=by
     obtain ⟨⟨bl,e1,g1⟩,cc,d1,o1⟩:=i1;refine ⟨⟨(2,[.comp ⟨e.tok.s.toArray⟩,.enter])::bl++[(names.length+1,R.code)],?_,fun x hx=>?_⟩,[],by simp,by simp⟩
     ·simp only;rw[e1];simp[zbn]
     ·rcases zyc.1 hx with hx|hx
      ·rcases zyk.1 hx with rfl|hx
       ·exact ⟨by simp,by simp,by simp,by simp[zrc]⟩
       ·exact g1 x hx
      ·rw[zya.1 hx];refine ⟨by simp only;omega,fun e0=>by simp only at e0;rw[e0]at i2;simp at i2,by simp only;omega,fun i hi=>?_⟩;simp only at hi;rw[d1]at hi;rcases zyc.1 hi with hi|hi
       ·simp[zbn]at hi;rcases hi with rfl|rfl|rfl <;> trivial
       ·exact o1 i hi
    have h2:=(h1.trans (zfm fns _ names)).trans (zcC _ (.wait R.blocks.length) trivial);obtain ⟨k1,k2⟩:=ih l (below+names.length+1) ((Bs.zak fns ⟨R.blocks++[(names.length+1,R.code)],q.zac,q.code⟩ names).push (.wait R.blocks.length)) l1 l2 l3;have:=h2.code;exact ⟨h2.trans k1,by omega⟩
   ·by_cases h9:e.kind=9
    ·obtain ⟨hne,s,ds,hk,hdl⟩:=hwl.k9 h9;obtain ⟨l1,l2,l3⟩:=hkid s (by simp[hk]);have hwt:=hd.wt;rw[hk]at hwt;simp at hwt;have hal:=zbP (free N) (wt N) (zaZ N) e.zao ds [];have hah:=zbd q.zac (zas (free N) e.zao ds []);simp only[zyi,zyC]at hal;obtain ⟨names,hnn⟩:∃ names,names=zai q.zac (zas (free N) e.zao ds []):=⟨_,rfl⟩;rw[<-hnn]at hah;obtain ⟨ao,hao⟩:∃ ao,ao=armsOf (work (free N) fns n) names e.zao ds ⟨q.blocks,([]::names).reverse,[]⟩ []:=⟨_,rfl⟩;have ea:=ziD hM ih hc names (by omega) e.zao ds ⟨q.blocks,([]::names).reverse,[]⟩ [] (fun a ha=>by have:=ztV hd a ha;omega) (fun x hx=>hkid x (by simp[hk,hx]));have ec:=(zeZ hc names e.zao ds ⟨q.blocks,([]::names).reverse,[]⟩ [] (fun x hx=>(hkid x (by simp[hk,hx])).2)).2.2;rw[<-hao]at ea ec;rw[zeT fns n below q h9 hk hnn hao];have h1:Ext q ⟨ao.1.blocks++[(names.length+1,ao.1.code++[.choose ao.2])],q.zac,q.code⟩:=by
      obtain ⟨⟨bl,e1,g1⟩,_⟩:=ea;refine ⟨⟨bl++[(names.length+1,ao.1.code++[.choose ao.2])],?_,fun x hx=>?_⟩,[],by simp,by simp⟩
      ·simp only;rw[e1];simp
      ·rcases zyc.1 hx with hx|hx
       ·exact g1 x hx
       ·rw[zya.1 hx,ec];refine ⟨by simp only;omega,by simp,by simp,fun i hi=>?_⟩;simp only[zx7,zya]at hi;rw[hi];show ao.2.length<=5000;rw[hao];have:=zpT (wk:=work (free N) fns n) names e.zao ds ⟨q.blocks,([]::names).reverse,[]⟩ [];have:=zsc hd;simp only[zyi,zyC]at *;omega
     have h2:=(h1.trans (zfm fns _ names)).trans (zcC _ (.wait ao.1.blocks.length) trivial);obtain ⟨k1,k2⟩:=ih s (below+names.length+1) ((Bs.zak fns ⟨ao.1.blocks++[(names.length+1,ao.1.code++[.choose ao.2])],q.zac,q.code⟩ names).push (.wait ao.1.blocks.length)) l1 l2 l3;have:=h2.code;exact ⟨h2.trans k1,by omega⟩
    ·by_cases h7:e.kind=7\/e.kind=8
     ·obtain ⟨hne,d,ps,hk,hpl⟩:=hwl.k7 h7;rw[work];simp only[h5,h6,h9,h7,if_false,if_true];obtain ⟨l1,l2,l3⟩:=hkid d (by simp[hk]);have hps:∀ x∈ps,Dp n x/\Dp N x/\wt N x<=M:=fun x hx=>hkid x (by simp[hk,hx])
      have hlet:∀ b:Bs,Ext b (zkm (work (free N) fns n) (free N) fns e b)/\b.code.length<(zkm (work (free N) fns n) (free N) fns e b).code.length:=fun b=>by
       rw[zes hk];have h1:=zoo hM ih hc fns (e:=e) b hps;obtain ⟨k1,k2⟩:=ih d 0 (zdo (work (free N) fns n) (free N) fns e ps b) l1 l2 l3;have:=h1.code;exact ⟨h1.trans k1,by omega⟩
      split
      ·exact hlet q
      ·obtain ⟨g1,g2⟩:=hlet ⟨(q.zak fns (zai q.zac (free N e))).blocks,(zai q.zac (free N e)).reverse,[]⟩;have hcl:(zkm (work (free N) fns n) (free N) fns e ⟨(q.zak fns (zai q.zac (free N e))).blocks,(zai q.zac (free N e)).reverse,[]⟩).code.length<=1000000000:=by
        rw[zes hk];obtain ⟨a1,a2,a3⟩:=zdX hc fns hk hpl ⟨(q.zak fns (zai q.zac (free N e))).blocks,(zai q.zac (free N e)).reverse,[]⟩ hd hm;have d1:=(hc d 0 (zdo (work (free N) fns n) (free N) fns e ps ⟨(q.zak fns (zai q.zac (free N e))).blocks,(zai q.zac (free N e)).reverse,[]⟩) l2 l3).1;have p1:=zlU hM l3;have hnl:=zdd hd;have p2:(M+8)*e.names.length<=5008*5000:=Nat.mul_le_mul (by omega) (by omega);simp only[zyi,zyC]at a3;omega
       have hA:=zmT g1 (fun e0=>by rw[e0]at g2;simp at g2) hcl (by simp;omega);have h2:=((zfm fns q (zai q.zac (free N e))).trans hA);have h3:=h2.code;refine ⟨(h2.trans (zcL _ _ (by exact trivial))).trans (zcL _ _ (by exact trivial)),?_⟩;simp only[Bs.ends,Bs.write,zxP,zxW];omega
     ·rw[work];simp only[h5,h6,h9,h7,if_false];have h1:=zm1 hM ih hc fns q (e:=e) (.inr ⟨by omega,hn⟩) hd hm;have:=h1.code;refine ⟨(h1.trans (zcL _ _ (by exact trivial))).trans (zcL _ _ (by exact trivial)),?_⟩;simp only[Bs.ends,Bs.write,zxP,zxW];omega
end Cp
end Go.Proofs.YtgahgkddaljmkaaGreatDoor
namespace Go.Proofs.YtgahgkddaljmkaaGreatDoor
open Go.RowKit Go.Shelf
variable {w:World}
variable {n g cap:Nat}
theorem ztJ{e:TypeId}{size:Nat}{xs:List Value}(h:w.ownsRow 0 e size (.slice (some ⟨g,0,none⟩) n cap) n xs)(j:Nat)(u:Value)(_hj:j<n*size):(w.setCell ⟨g,j,none⟩ u).ownsRow 0 e size (.slice (some ⟨g,0,none⟩) n cap) n (xs.set j u):=by
 obtain ⟨h1,h2⟩:=h;refine ⟨by rw[zx2];exact h1,?_⟩;rcases h2 with ⟨h2,_⟩|⟨g',cap',cur,hv,hg,hb,r1,r2,r3,r4⟩
 ·cases h2
 ·cases hv;refine .inr ⟨g,cap,cur.set! j u,rfl,hg,?_,r1,r2,by simp[r3],?_⟩
  ·have hl:g<w.heap.size:=(zxU.1 hb).1;simp[World.setCell,Array.getElem?_modify,hb]
  ·rw[<-r4];simp[List.take_set]
theorem zhV:∀ (l:List (Nat × List Ins)) (vs:List Value) (i:Nat) (b:Nat × List Ins) (v:Value),vs.length=l.length->((zay l vs).set (i*2) (.int .i64 b.1)).set (i*2+1) v=zay (l.set i b) (vs.set i v)
 |[],[],_,_,_,_=>by simp[zay]
 |x::l,y::vs,0,b,v,_=>by simp[zay]
 |x::l,y::vs,i+1,b,v,h=>by
  simp only[zay,zxS];rw[show (i+1)*2=i*2+2 by omega,show i*2+2+1=i*2+1+2 by omega];rw[zx5,zx5,zx7,zxS,zxS,zxS,zxS,zhV l vs i b v (by simpa using h)];rfl
 |[],_::_,_,_,_,h=>by simp at h
 |_::_,[],_,_,_,h=>by simp at h
variable {cb:Nat}
variable {fns:List Cp.Nm}
theorem CS.put{Z:Nat->Prop}{W:World}{bb i m:Nat}{sv kv:Value}{q:Cp.Bs}(h:BS Z w cb bb (.slice (some ⟨g,0,none⟩) q.blocks.length cap) sv kv fns q)(f:Fr (fun _=>False) w W)(hi:i<q.blocks.length):
  CS (fun k=>Z k\/kv.ownBlock=some k) ((W.setCell ⟨g,i*2,none⟩ (.int .i64 m)).setCell ⟨g,i*2+1,none⟩ kv) cb (.slice (some ⟨g,0,none⟩) q.blocks.length cap) fns (q.blocks.set i (m,q.code)):=by
 have hW:=h.fr0 f;obtain ⟨fv,hc1,hc2⟩:=hW.zkk;obtain ⟨cvs,hr1,hr2,hr3⟩:=hW.zkF;obtain ⟨vs,hk1,hk2⟩:=hW.znO;have hgb:g≠cb:=fun e=>hW.rc.1 (by rw[e];rfl)
 have hkg:kv.ownBlock≠some g:=hW.rk g rfl;have hkl:=hW.klt;have f2:Fr (fun k=>k=g) W ((W.setCell ⟨g,i*2,none⟩ (.int .i64 m)).setCell ⟨g,i*2+1,none⟩ kv):=((Fr.refl (fun k=>k=g) _).set _ _ (.inl rfl)).set _ _ (.inl rfl);have hz:∀ k,k<W.heap.size->Z k->¬ k=g:=fun k _ hk e=>hW.zk k hk (.inr (.inr (.inl (by rw[e];rfl))))
 have hcode:ziA (fun k=>Z k\/kv.ownBlock=some k) ((W.setCell ⟨g,i*2,none⟩ (.int .i64 m)).setCell ⟨g,i*2+1,none⟩ kv) kv q.code:=
  ⟨vs,⟨f2.gb hk1 (fun k hk e=>hkg (by rw[<-e];exact hk)),fun k hk=>.inr hk⟩,hk2.frz f2 hz (fun _ _ x=>.inl x)⟩
 refine ⟨⟨fv,Fr.blk hc1 f2 (fun e=>hgb e.symm),hc2.frz f2 hz (fun _ _ x=>.inl x)⟩,⟨cvs.set i kv,by simp[hr1],?_,?_⟩,?_,?_,?_⟩
 ·rw[<-zhV q.blocks cvs i (m,q.code) kv hr1,zx2];exact ztJ (ztJ hr2 (i*2) _ (by omega)) (i*2+1) _ (by omega)
 ·intro j b cv hj hv;rw[zxR]at hj hv;by_cases hij:i=j
  ·subst hij;rw[if_pos rfl,if_pos hi]at hj;rw[if_pos rfl,if_pos (by omega)]at hv;cases hj;cases hv;exact hcode
  ·rw[if_neg hij]at hj hv;exact (hr3 j b cv hj hv).frz f2 hz (fun _ _ x=>.inl x)
 ·rintro k (hk|hk)
  ·exact zxO (hW.zlt k hk) f2.size
  ·exact zxO (hkl k hk) f2.size
 ·rintro k (hk|hk)
  ·exact ⟨fun e=>hW.zk k hk (.inl e),fun e=>hW.zk k hk (.inr (.inr (.inl e)))⟩
  ·exact ⟨fun e=>hW.kc.1 (e ▸ hk),fun e=>hW.rk k e hk⟩
 ·exact hW.rc.1
theorem madeB(n:Nat):madeCells (Value.cells (.agg #[.int .i64 0,.slice none 0 0])) (n*2)=(zay (List.replicate n (0,[])) (List.replicate n (.slice none 0 0))).toArray:=by
 have hl:∀ n:Nat,(zay (List.replicate n (0,([]:List Ins))) (List.replicate n (.slice none 0 0))).length=2*n/\∀ i,i<n->(zay (List.replicate n (0,([]:List Ins))) (List.replicate n (.slice none 0 0)))[2*i]?=some (.int .i64 0)/\(zay (List.replicate n (0,([]:List Ins))) (List.replicate n (.slice none 0 0)))[2*i+1]?=some (.slice none 0 0):=by
  intro n
  induction n with
  |zero=>simp[zay]
  |succ n ih=>
   simp only[zyZ,zay];refine ⟨by simp[ih.1];omega,fun i hi=>?_⟩;cases i with
   |zero=>simp
   |succ i=>
    rw[show 2*(i+1)=2*i+1+1 by omega];simp only[zx5,zx7,zyP];exact ih.2 i (by omega)
 obtain ⟨h1,h2⟩:=hl n;apply Array.ext
 ·simp only[zyw,h1];simp[madeCells,Value.cells];omega
 ·intro i hi1 hi2;simp only[zyw,h1]at hi2;have e1:=h2 (i/2) (by omega);rcases Nat.mod_two_eq_zero_or_one i with hm|hm
  ·have e2:=e1.1;rw[show 2*(i/2)=i by omega]at e2;have:(zay (List.replicate n (0,([]:List Ins))) (List.replicate n (.slice none 0 0))).toArray[i]'(by simp[h1];omega)=.int .i64 0:=by
    rw[List.getElem_toArray];exact (zxH.1 e2).2
   rw[this];simp[madeCells,Value.cells,hm]
  ·have e2:=e1.2;rw[show 2*(i/2)+1=i by omega]at e2;have:(zay (List.replicate n (0,([]:List Ins))) (List.replicate n (.slice none 0 0))).toArray[i]'(by simp[h1];omega)=.slice none 0 0:=by
    rw[List.getElem_toArray];exact (zxH.1 e2).2
   rw[this];simp[madeCells,Value.cells,hm]
theorem zte(hn:n<=1000000)(W:World):(Instr.makeSlice 64 (.int .i64 (n:Int)) (.int .i64 (n:Int))).run Tryz.prog W=.ok (.slice (some ⟨W.heap.size,0,none⟩) n n) (W.alloc (.cells (zay (List.replicate n (0,[])) (List.replicate n (.slice none 0 0))).toArray 96)):=by
 obtain ⟨i,hi,he⟩:=zxT.1 znl;simp only[zyH]at he;obtain ⟨h1,h2,h3⟩:=he;have:=run_make (P:=Tryz.prog) W 64 96 i (.agg #[.int .i64 0,.slice none 0 0]) Tryz.underlying64 hi h1 .i64 .i64 n n (by omega) (by omega) (by rw[h3];omega) (by omega);rw[this,h2,zxY,madeB]
end Go.Proofs.YtgahgkddaljmkaaGreatDoor
namespace Go.Proofs.YtgahgkddaljmkaaGreatDoor
open Go.RowKit Go.Shelf
attribute [local go_sem ↓] Go.wp_at_zero Go.wp_at_succ
structure PL (Z1:Nat->Prop) (w1 wr:World) (cb:Nat) (rv1:Value) (fns:List Cp.Nm) (bl:List (Nat × List Ins)) (Zi:Nat->Prop) (rvi:Value):Prop where
 z:∀ j,j<w1.heap.size->(Zi j↔Z1 j)
 c:CS Zi wr cb rvi fns bl
 f:Fr (fun k=>k=cb\/rv1.ownBlock=some k) w1 wr
 n:New w1 rv1 rvi
variable {Z1 Zi:Nat->Prop}
variable {w1 wr:World}
variable {cb n:Nat}
variable {rv1 rvi:Value}
variable {fns:List Cp.Nm}
variable {bl:List (Nat × List Ins)}
theorem PL.row{size:Nat}{v:Value}{t:TypeId}{xs:List Value}{bl1:List (Nat × List Ins)}(h:PL Z1 w1 wr cb rv1 fns bl Zi rvi)(h1:CS Z1 w1 cb rv1 fns bl1)(hr:Row Z1 w1 t size v n xs):Row Zi wr t size v n xs:=
 hr.frz h.f (fun k _ hz e=>by rcases e with e|e;exact (h1.zk k hz).1 e;exact (h1.zk k hz).2 e) (fun k hk hz=>(h.z k hk).2 hz)
variable {e:Th.Ex}
theorem PL.rep{v:Value}{bl1:List (Nat × List Ins)}(h:PL Z1 w1 wr cb rv1 fns bl Zi rvi)(h1:CS Z1 w1 cb rv1 fns bl1)(hr:Rep Z1 w1 n v e):Rep Zi wr n v e:=
 hr.frz h.f (fun k _ hz e=>by rcases e with e|e;exact (h1.zk k hz).1 e;exact (h1.zk k hz).2 e) (fun k hk hz=>(h.z k hk).2 hz)
theorem PL.drew{Z1 Zi:Nat->Prop}{w1 wr:World}{cb:Nat}{rv1 rvi:Value}{fns:List Cp.Nm}{bl:List (Nat × List Ins)}(h:PL Z1 w1 wr cb rv1 fns bl Zi rvi):PL Z1 w1 wr.drew cb rv1 fns bl Zi rvi:=
 ⟨h.z,h.c.fr0 (Fr.refl _ _).drew,h.f.drew,h.n⟩
variable {g cap:Nat}
theorem PL.next{Z':Nat->Prop}{w2 w3 w4:World}{bb i m:Nat}{sv sv' kv':Value}{q:Cp.Bs}(h:PL Z1 w1 wr cb rv1 fns bl Zi rvi)(f2:Fr (fun _=>False) wr w2)(hsv:∀ k,sv.ownBlock=some k->wr.heap.size<=k)(z3:∀ k,k<w2.heap.size->(Z' k↔Zi k))(b3:BS Z' w3 cb bb (.slice (some ⟨g,0,none⟩) q.blocks.length cap) sv' kv' fns q)(f3:Fr (fun k=>k=cb\/rvi.ownBlock=some k\/sv.ownBlock=some k) w2 w3)(n3:New w2 rvi (.slice (some ⟨g,0,none⟩) q.blocks.length cap))(k3:∀ k,kv'.ownBlock=some k->w2.heap.size<=k)(f4:Fr (fun _=>False) w3 w4)(hi:i<q.blocks.length):
  PL Z1 w1 ((w4.setCell ⟨g,i*2,none⟩ (.int .i64 m)).setCell ⟨g,i*2+1,none⟩ kv') cb rv1 fns (q.blocks.set i (m,q.code)) (fun k=>Z' k\/kv'.ownBlock=some k) (.slice (some ⟨g,0,none⟩) q.blocks.length cap):=by
 have s1:=h.f.size;have s2:=f2.size;have s3:=f3.size;have s4:=f4.size;have hn:New w1 rv1 (.slice (some ⟨g,0,none⟩) q.blocks.length cap):=h.n.trans (New.trans (New.refl wr rvi) n3 s2) s1;refine ⟨fun j hj=>?_,CS.put b3 f4 hi,?_,hn⟩
 ·have:=z3 j (by omega);have h2:=h.z j hj;constructor
  ·rintro (e|e)
   ·exact h2.1 (this.1 e)
   ·have:=k3 j e;omega
  ·exact fun e=>.inl (this.2 (h2.2 e))
 ·have hg:(g=cb\/rv1.ownBlock=some g)\/w1.heap.size<=g:=by
   rcases hn g rfl with e|e
   ·exact .inl (.inr e)
   ·exact .inr e
  refine Fr.set (Fr.set ?_ _ _ hg) _ _ hg;refine ⟨f4.os.trans (f3.os.trans (f2.os.trans h.f.os)),f4.tape.trans (f3.tape.trans (f2.tape.trans h.f.tape)),f4.output.trans (f3.output.trans (f2.output.trans h.f.output)),by omega,fun j hj hn=>?_⟩;have e3:¬ (j=cb\/rvi.ownBlock=some j\/sv.ownBlock=some j):=by
   rintro (e|e|e)
   ·exact hn (.inl e)
   ·rcases h.n j e with e|e
    ·exact hn (.inr e)
    ·omega
   ·have:=hsv j e;omega
  rw[f4.block j (by omega) (by simp),f3.block j (by omega) e3,f2.block j (by omega) (by simp),h.f.block j hj hn]
theorem zeg(n:Nat):(zay (List.replicate n (0,([]:List Ins))) (List.replicate n (.slice none 0 0))).length=n*2:=by
 induction n with
 |zero=>rfl
 |succ n ih=>simp only[zyZ,zay,zxP,ih];simp;omega
variable {w:World}
theorem CS.start{S:Nat->Prop}{W1:World}{fv:Value}(hn:n<=1000000)(hfl:fns.length=n)(F1:Fr (fun _=>False) w w1)(ho:w1.ownsRow (w.heap.size+1) 9 1 fv n (strCells fns))(hW1:W1=(w1.alloc (.cells #[fv,.slice (some ⟨w1.heap.size+1,0,none⟩) n n] 86)).alloc (.cells (zay (List.replicate n (0,[])) (List.replicate n (.slice none 0 0))).toArray 96)):
  CS (fun k=>(S k/\k<w.heap.size)\/fv.ownBlock=some k) W1 w1.heap.size (.slice (some ⟨w1.heap.size+1,0,none⟩) n n) fns (List.replicate n (0,[]))/\Fr (fun _=>False) w1 W1/\W1.heap.size=w1.heap.size+2:=by
 have hs:=F1.size;have fA:Fr (fun _=>False) w1 W1:=by rw[hW1];exact ((Fr.refl _ _).alloc _).alloc _
 have hWs:W1.heap.size=w1.heap.size+2:=by rw[hW1,World.size_alloc,World.size_alloc]
 have hcB:Blk W1 w1.heap.size [fv,.slice (some ⟨w1.heap.size+1,0,none⟩) n n] 86:=by rw[hW1];exact Blk.alloc (Blk.new w1 [fv,.slice (some ⟨w1.heap.size+1,0,none⟩) n n] 86) _
 have hrB:Blk W1 (w1.heap.size+1) (zay (List.replicate n (0,[])) (List.replicate n (.slice none 0 0))) 96:=by
  have:=Blk.new (w1.alloc (.cells #[fv,.slice (some ⟨w1.heap.size+1,0,none⟩) n n] 86)) (zay (List.replicate n (0,[])) (List.replicate n (.slice none 0 0))) 96;rw[World.size_alloc]at this;rw[hW1];exact this
 have hfl1:∀ k,fv.ownBlock=some k->k<w1.heap.size:=fun k hk=>(ho.lt k hk).2
 refine ⟨⟨⟨fv,hcB,?_⟩,⟨List.replicate n (.slice none 0 0),by simp,⟨by simp[zeg],.inr ⟨w1.heap.size+1,n,(zay (List.replicate n (0,[])) (List.replicate n (.slice none 0 0))).toArray,by simp,zx1 _,hrB,by simp,?_,by simp[zeg],?_⟩⟩,?_⟩,?_,?_,?_⟩,fA,hWs⟩
 ·rw[hfl];exact ⟨zhQ (zaY ho (zx1 _)) fA (by simp),fun k hk=>.inr hk⟩
 ·simp[maxLen];omega
 ·rw[zx4 (by simp[zeg])]
 ·intro i b cv hb hcv;have e1:=zyM (zxX hb);have e2:=zyM (zxX hcv);rw[e1,e2];exact ⟨[],⟨World.ownsRow_nil _ _ _ _,by simp[Value.ownBlock]⟩,rfl,by simp⟩
 ·rintro k (⟨_,hk⟩|hk)
  ·omega
  ·have:=hfl1 k hk;omega
 ·rintro k (⟨_,hk⟩|hk)
  ·exact ⟨by omega,by simp only[Value.ownBlock,ne_eq,zxL];omega⟩
  ·have:=hfl1 k hk;exact ⟨by omega,by simp only[Value.ownBlock,ne_eq,zxL];omega⟩
 ·simp[Value.ownBlock]
variable {M N:Nat}
theorem zof(hW:zbg M N N){S:Nat->Prop}{pv:Value}{l:List Th.zbq}{nvs bvs:List Value}(h1:nvs.length=l.length)(h2:bvs.length=l.length)(hrow:Row S w 93 4 pv l.length (zaQ l nvs bvs))(hlr:zdx S w N l nvs bvs)(hfn:fns=Th.zaq l)(hmain:[109,97,105,110]∈fns)(hfit:∀ f∈l,f.params.length<=5000/\∀ bl:List (Nat × List Ins),bl.length+8*Cp.wt N f.e<=1000000->Fit M N fns ⟨bl,(Th.texts f.params).reverse,[]⟩ f.e)(hcost:∀ f∈l,∀ q:Cp.Bs,(Cp.work (Cp.free N) fns N f.e 0 q).blocks.length<=q.blocks.length+8*Cp.wt N f.e/\q.blocks.length<=(Cp.work (Cp.free N) fns N f.e 0 q).blocks.length)(hsum:l.length+(l.map fun f=>8*Cp.wt N f.e).sum<=1000000):
  Calls Tryz.prog 35 #[pv] w fun e w'=>∃ Z cb rv,e=.returned (.agg #[rv,.int .i64 l.length,.int .i64 (fns.idxOf [109,97,105,110]:Nat)])/\CS Z w' cb rv fns (Cp.program N l)/\Fr (fun _=>False) w w':=by
 have hmf:∀ (fn:Fn) (first cap:Array Value) (w:World),(Instr.makeFunc fn first cap).run Tryz.prog w=.ok (.func fn first cap) w:=fun _ _ _ _=>rfl
 have hfl:fns.length=l.length:=by rw[hfn];simp[Th.zaq]
 have hpos:0<l.length:=by have:=List.length_pos_of_mem hmain;omega
 obtain ⟨g,cap,rfl⟩:∃ g cap,pv=.slice (some ⟨g,0,none⟩) l.length cap:=by
  rcases zan hrow with rfl|⟨g,cap,rfl⟩
  ·exfalso;rcases hrow.1.2 with ⟨_,h0⟩|⟨_,_,_,h0,_⟩
   ·omega
   ·cases h0
  ·exact ⟨g,cap,rfl⟩
 have hone:∀ (i:Nat) (nv bv:Value),nvs[i]?=some nv->bvs[i]?=some bv->nv.oneCell'=true/\bv.oneCell'=true:=by
  intro i nv bv hn hb;obtain ⟨x,hx⟩:∃ x,l[i]?=some x:=⟨_,zxI (by have:=(zxH.1 hn).1;omega)⟩;obtain ⟨r1,r2⟩:=hlr i x nv bv hx hn hb;obtain ⟨a,k,c,rfl⟩:=zae r1;obtain ⟨t,x,rfl⟩:=zah r2;exact ⟨rfl,rfl⟩
 have f0:Fr (fun _=>False) w (w.alloc (.cells #[.slice none 0 0,.int .i64 0,.int .i64 0] 66)):=(Fr.refl _ _).alloc _;have CN:=zab (zdL (Row.frc hrow f0 (by simp)) h1 h2 hone (by omega));have HM:=zte (n:=l.length) (by omega);have HB0:=zab (Blk.new w [.slice none 0 0,.int .i64 0,.int .i64 0] 66);have F0:=zab f0;have HR:=zab hrow;have HL:=zab hlr;have H12:=zab (And.intro h1 (And.intro h2 (And.intro hsum hfit)));have HC:=zab hcost;have HW:=zab hW;have HF:=zab (And.intro hfn hmain);clear hW hrow hlr h1 h2 hfn hmain hfit hcost f0 hone;go_enter Tryz.func35,Tryz.ntmps35
 go_wp2_with fail
 refine CN.o.mono ?_;rintro e w1 ⟨v1,rfl,ho1,b1⟩;obtain ⟨np,nn,nc,rfl⟩:=zaF ho1;obtain ⟨hfn,hmain⟩:=HF.o;have hsz0:(w.alloc (.cells #[.slice none 0 0,.int .i64 0,.int .i64 0] 66)).heap.size=w.heap.size+1:=World.size_alloc _ _;have hb1s:=b1.size;have F1:Fr (fun _=>False) w w1:=F0.o.trans (Fr.below b1);obtain ⟨W1,hW1⟩:∃ W1,W1=(w1.alloc (.cells #[.slice np nn nc,.slice (some ⟨w1.heap.size+1,0,none⟩) l.length l.length] 86)).alloc (.cells (zay (List.replicate l.length (0,[])) (List.replicate l.length (.slice none 0 0))).toArray 96):=⟨_,rfl⟩;rw[hsz0]at ho1;obtain ⟨Z1,hZ1⟩:∃ Z1:Nat->Prop,Z1=fun k=>(S k/\k<w.heap.size)\/(Value.slice np nn nc).ownBlock=some k:=⟨_,rfl⟩
 obtain ⟨hC1,fA,hWs⟩:=CS.start (S:=S) (n:=l.length) (fns:=fns) (by omega) hfl F1 (by rw[hfn];exact ho1) hW1;rw[<-hZ1]at hC1;have HC1:=zab hC1;clear CN;go_wp2_with fail
 rw[<-hW1]
 go_loopg [19] l.length (fun gk iv wr=>∃ (i:Nat) (Zi:Nat->Prop) (rvi:Value) (bl:List (Nat × List Ins)),iv=.int .i64 i/\i+gk=l.length/\PL Z1 W1 wr w1.heap.size (.slice (some ⟨w1.heap.size+1,0,none⟩) l.length l.length) fns bl Zi rvi /\
  Cp.lines (Cp.free N) fns N i (l.drop i) bl=Cp.program N l/\l.length<=bl.length/\bl.length+((l.drop i).map fun f=>8*Cp.wt N f.e).sum<=1000000)
 case atStart=>
  exact ⟨0,Z1,_,List.replicate l.length (0,[]),rfl,by omega,⟨fun _ _=>zzs,HC1.o,Fr.refl _ _,New.refl _ _⟩,by rw[zyX,hfn];rfl,by simp,by simpa using hsum⟩
 case round=>
  obtain ⟨i,Zi,rvi,bl,rfl,hi,hP,hE,hbl,hB⟩:=hrel;have hlift:∀ {t:TypeId} {size n:Nat} {v:Value} {xs:List Value},Row S w t size v n xs->Row Zi wr t size v n xs:=fun hr=>hP.row HC1.o (hr.frz (F1.trans fA) (by simp) (fun k hk hz=>by rw[hZ1];exact .inl ⟨hz,hk⟩))
  have hliftR:∀ {n:Nat} {v:Value} {e:Th.Ex},Rep S w n v e->Rep Zi wr n v e:=fun hr=>hP.rep HC1.o (hr.frz (F1.trans fA) (by simp) (fun k hk hz=>by rw[hZ1];exact .inl ⟨hz,hk⟩))
  have hrow:=hlift HR.o;have hgl:=(hrow.1.lt g rfl).2;by_cases hlt:i<l.length
  ·obtain ⟨x,hx⟩:∃ x,l[i]?=some x:=⟨l[i],zxI hlt⟩;have hxm:=zxX hx;obtain ⟨nv,hnv⟩:∃ nv,nvs[i]?=some nv:=⟨_,zxI (by rw[H12.o.1];exact hlt)⟩;obtain ⟨bv,hbv⟩:∃ bv,bvs[i]?=some bv:=⟨_,zxI (by rw[H12.o.2.1];exact hlt)⟩;obtain ⟨r1,r2⟩:=HL.o i x nv bv hx hnv hbv;have hNm:=hlift r1;have hRp:=hliftR r2;obtain ⟨xa,xk,xc,rfl⟩:=zae r1;obtain ⟨yt,yx,rfl⟩:=zah r2;have hc:=zcn l nvs bvs i x _ _ hx hnv hbv;have y0:=(hrow.1.cellAt (i*4) (by omega)).trans hc.1;have y1:=(hrow.1.cellAt (i*4+1) (by omega)).trans hc.2.1;have y2:=(hrow.1.cellAt (i*4+2) (by omega)).trans hc.2.2.1;have y3:=(hrow.1.cellAt (i*4+3) (by omega)).trans hc.2.2.2;have hi0:(0:Int)<=(i:Int):=by omega
   have hil:(i:Int)<(l.length:Int):=by omega
   obtain ⟨hpl,hfx⟩:=H12.o.2.2.2 x hxm;have hD:l.drop i=x::l.drop (i+1):=by rw[zyn hlt];rw[zxI hlt]at hx;cases hx;rfl
   rw[hD,zx6,zx9]at hB;have hF:=hfx bl (by omega);obtain ⟨sl,hsl⟩:∃ sl:List Cp.Nm,sl=(Th.texts x.params).reverse:=⟨_,rfl⟩;rw[<-hsl]at hF;obtain ⟨q,hq⟩:∃ q,q=Cp.work (Cp.free N) fns N x.e 0 ⟨bl,sl,[]⟩:=⟨_,rfl⟩;obtain ⟨hc1,hc2⟩:=HC.o x hxm ⟨bl,sl,[]⟩;rw[<-hq]at hc1 hc2;simp only at hc1 hc2;have hE2:Cp.lines (Cp.free N) fns N (i+1) (l.drop (i+1)) (q.blocks.set i (sl.length,q.code))=Cp.program N l:=by
    rw[<-hE,hD,Cp.lines,hq,hsl]
   have f1:Fr (fun _=>False) wr (wr.alloc (.cells #[.string ⟨x.name.s.toArray⟩,.int .i64 x.name.at_,.slice xa xk xc,.iface yt yx] 93)):=(Fr.refl _ _).alloc _;have hX:=Blk.new wr [.string ⟨x.name.s.toArray⟩,.int .i64 x.name.at_,.slice xa xk xc,.iface yt yx] 93;have CT:=zab (zdK (Row.frc hNm f1 (by simp)) (by omega));have HX:=zab hX;have F1':=zab f1;have HP:=zab hP;have HE2:=zab (And.intro hE2 (And.intro hc1 (And.intro hc2 hB)));have HQ:=zab (And.intro hq hsl);have HF2:=zab (And.intro hF hRp);clear hP hE hB hrow hNm hRp hc hF hq hsl hE2 hc1 hc2 hX hD hfx hlift hliftR f1 r1 r2;go_wp2_with fail
   refine CT.o.mono ?_;rintro r w2 ⟨tv,rfl,hT,f2⟩;obtain ⟨tp,tn,tc,rfl⟩:=zae hT;have f3:Fr (fun _=>False) w2 (w2.alloc (.cells #[.slice tp tn tc] 38)):=(Fr.refl _ _).alloc _;have CF:=zab (zlD (Blk.new w2 [.slice tp tn tc] 38) (Row.frc hT f3 (by simp)) (by rw[Cp.zci];omega));have F3:=zab ((F1'.o.trans f2).trans f3);have F23:=zab (f2.trans f3);clear hT f2 f3 CT y0 y1 y2 y3;go_wp2_with fail
   refine CF.o.mono ?_;rintro r w4 ⟨sv,rfl,hS,f4⟩;obtain ⟨sp,sn,sc,rfl⟩:=zae hS;have f04:=F3.o.trans f4;have hP:=HP.o;have hs0:∀ k,(Value.slice sp sn sc).ownBlock=some k->wr.heap.size<=k:=fun k hk=>zxN F3.o.size (hS.2 k hk)
   obtain ⟨hq,hsl⟩:=HQ.o;obtain ⟨hF,hRp⟩:=HF2.o;have hS2:=hS;rw[<-hsl]at hS2;have CB:=zab (zni (lb:=#[.pointer (some ⟨wr.heap.size,0,none⟩)]) (q:=q) zqJ (hP.c.fr0 f04) (zaY hS2.1 (zx1 _)) (fun k hk=>⟨by have:=hP.c.clt;have:=hs0 k hk;omega,fun e=>by have:=hP.c.rlt k e;have:=hs0 k hk;omega,fun e=>by have:=hP.c.zlt k e;have:=hs0 k hk;omega⟩)
    (fun W bb hW' hb=>by rw[hq];exact zoc HW.o (Fr.blk (Fr.blk (Fr.blk HX.o F23.o (by simp)) f4 (by simp)) hW' (by simp)) hb (hRp.fr0 (f04.trans hW')) hF))
   have F4:=zab f04;have HS0:=zab hs0;clear hS hS2 hP f4 f04 hs0 hq hsl hF hRp CF;go_wp2_with fail
   refine CB.o.mono ?_;rintro r w5 ⟨Z',bb,rv',sv',kv',rfl,z5,b5,f5,n5,k5⟩;obtain ⟨hE2,hc1,hc2,hB⟩:=HE2.o;obtain ⟨g5,cap5,rfl⟩:∃ g5 cap5,rv'=.slice (some ⟨g5,0,none⟩) q.blocks.length cap5:=by
    obtain ⟨cvs,_,ho,_⟩:=b5.zkF;rcases ho.2 with ⟨_,h0⟩|⟨g5,cap5,cur,h0,_⟩
    ·omega
    ·exact ⟨g5,cap5,h0⟩
   obtain ⟨kp,kn,kc,rfl⟩:∃ a b c,kv'=.slice a b c:=by obtain ⟨vs,h0,_⟩:=b5.znO;exact zaF h0
   have hiq:i<q.blocks.length:=by omega
   have f6:Fr (fun _=>False) w5 (w5.alloc (.cells #[.int .i64 sl.length,.slice kp kn kc] 96)):=(Fr.refl _ _).alloc _;have b6:=b5.fr0 f6;obtain ⟨fv,hcB,_⟩:=b6.zkk;have d1:=Blk.cell hcB 1;simp at d1;obtain ⟨cvs,hcv,hro,_⟩:=b6.zkF;have hbl2:(zay q.blocks cvs).length=q.blocks.length*2:=hro.1;have z0:=hro.frozenAt (i*2);have z1:=hro.frozenAt (i*2+1);obtain ⟨o0,hO0⟩:∃ o0,(zay q.blocks cvs)[i*2]?=some o0:=⟨_,zxI (by omega)⟩;obtain ⟨o1,hO1⟩:∃ o1,(zay q.blocks cvs)[i*2+1]?=some o1:=⟨_,zxI (by omega)⟩;have e0:=(hro.cellAt (i*2) (by omega)).trans hO0;have e1:=(hro.cellAt (i*2+1) (by omega)).trans hO1;have hgl5:=(hro.lt g5 rfl).2;have HN:=zab (PL.next (m:=sl.length) HP.o F4.o HS0.o z5 b5 f5 n5 k5 f6 hiq);have HB:=zab (And.intro hc1 (And.intro hc2 (And.intro hB hE2)));have hq0:(i:Int)<(q.blocks.length:Int):=by omega
   clear b5 b6 f5 n5 k5 z5 f6 hcB CB hc1 hc2 hB hE2 hro hcv hO0 hO1 hbl2;go_wp2_with fail
   go_region
   go_wp2_with fail
   go_roundg (l.length-(i+1))
   case measure=>omega
   case rel=>
    obtain ⟨hc1,hc2,hB,hE2⟩:=HB.o;refine ⟨i+1,_,_,_,by go_num,by omega,HN.o.drew,hE2,by rw[zx2];omega,by rw[zx2];omega⟩
  ·have hil:i=l.length:=by omega
   have hsz1:w.heap.size+1<=w1.heap.size:=by rw[hsz0]at hb1s;exact hb1s
   rw[hil,List.drop_length,Cp.lines]at hE;subst hE;obtain ⟨fv,hcB,hfv⟩:=hP.c.zkk;obtain ⟨fp,fm,fc,rfl⟩:=zae hfv;have CI:=zab (znr (w:=wr.drew) (Row.frc hfv (Fr.refl (fun _=>False) wr).drew (by simp)) (by omega) hmain);have hR:Blk wr w.heap.size [.slice none 0 0,.int .i64 0,.int .i64 0] 66:=by
    refine Fr.blk (Fr.blk (Fr.blk HB0.o (K:=fun _=>False) (Fr.below b1) (by simp)) fA (by simp)) hP.f ?_;rintro (e|e)
    ·omega
    ·simp only[Value.ownBlock,zxL]at e;omega
   have hF:Fr (fun _=>False) w wr:=by
    have:=(F1.trans fA);refine ⟨hP.f.os.trans this.os,hP.f.tape.trans this.tape,hP.f.output.trans this.output,zxN this.size hP.f.size,fun k hk _=>(hP.f.block k (zxO hk this.size) ?_).trans (this.block k hk (by simp))⟩;rintro (e|e)
    ·have:=F1.size;omega
    ·simp only[Value.ownBlock,zxL]at e;have:=F1.size;omega
   have q0:=Blk.cell hcB 0;have q1:=Blk.cell hcB 1;have r0:=Blk.cell hR 0;have r1:=Blk.cell hR 1;have r2:=Blk.cell hR 2;have z0:=Blk.frozen hR 0;have z1:=Blk.frozen hR 1;have z2:=Blk.frozen hR 2;simp at q0 q1 r0 r1 r2;obtain ⟨rp,rn,rc,rfl⟩:∃ a b c,rvi=.slice a b c:=by obtain ⟨cvs,_,h0,_⟩:=hP.c.zkF;exact zaF h0
   have HRR:=zab hR;have HFF:=zab hF;have HP:=zab hP;have hwl:w1.heap.size≠w.heap.size:=by have:=F1.size;omega
   have HKK:Hid (∀ k,Zi k\/k=w1.heap.size\/(Value.slice rp rn rc).ownBlock=some k->¬ k=w.heap.size):=zab (by
    rintro k (e|e|e) rfl
    ·have e2:=(hP.z w.heap.size (by omega)).1 e;rw[hZ1]at e2;rcases e2 with ⟨_,e2⟩|e2
     ·omega
     ·have:=(ho1.lt _ e2).1;omega
    ·omega
    ·rcases hP.n _ e with e|e
     ·simp only[Value.ownBlock,zxL]at e;omega
     ·omega)
   clear hP hR hF hcB hfv hrow hlift hliftR hgl hfn;go_wp2_with fail
   go_region_with (go_at_call 55;refine CI.o.mono ?_;rintro e wA ⟨rfl,rfl⟩)
   all_goals
    go_wp2_with fail
    refine bodyPost_ret (results_cell_row rfl _ _ w.heap.size _ _ _ _ rfl (Blk.drew (Blk.set (Blk.set (Blk.set HRR.o 0 _) 1 _) 2 _)) Tryz.underlying66 rfl (by kernel_rfl)) rfl ?_;have f9:Fr (fun k=>k=w.heap.size) wr (((wr.setCell ⟨w.heap.size,0,none⟩ (.slice rp rn rc)).setCell ⟨w.heap.size,1,none⟩ (.int .i64 l.length)).setCell ⟨w.heap.size,2,none⟩ (.int .i64 (fns.idxOf [109,97,105,110]:Nat))).drew:=((((Fr.refl (fun k=>k=w.heap.size) _).set _ _ (.inl rfl)).set _ _ (.inl rfl)).set _ _ (.inl rfl)).drew;refine ⟨Zi,w1.heap.size,.slice rp rn rc,rfl,HP.o.c.frk f9 ?_,?_⟩
    ·exact HKK.o
    ·exact Fr.drew (Fr.set (Fr.set (Fr.set HFF.o _ _ (.inr (zxJ _))) _ _ (.inr (zxJ _))) _ _ (.inr (zxJ _)))
end Go.Proofs.YtgahgkddaljmkaaGreatDoor
