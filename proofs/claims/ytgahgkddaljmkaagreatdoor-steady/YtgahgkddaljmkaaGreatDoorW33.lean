/- Plain4 .. Gc1 -/
import Derived.Test.YtgahgkddaljmkaaGreatDoorW32
import Derived.Test.YtgahgkddaljmkaaGreatDoorW28
set_option maxRecDepth 100000
set_option maxHeartbeats 4000000
namespace Go.Proofs.YtgahgkddaljmkaaGreatDoor
open Tryz
namespace Th
theorem zbM.mono{n m:Nat}(hm:n<=m):∀ {lo hi:Nat} {l:List zbr},zbM n lo hi l->zbM m lo hi l
 |_,_,[],h=>h
 |_,_,_::_,⟨h0,m1,m2,h1,h2,h3⟩=>⟨h0,m1,m2,h1,h2.mono hm,zbM.mono hm h3⟩
theorem zbM.snoc{n:Nat}:∀ {lo m m1 hi:Nat} {l:List zbr} {x:zbr},zbM n lo m l->m<=x.name.at_->zcx (x.name.at_+1) m1 x.params->In n x.e m1 hi->zbM n lo hi (l++[x])
 |_lo,_m,m1,hi,[],_x,h,hm,h1,h2=>⟨zyR h hm,m1,hi,h1,h2,zyN _⟩
 |_lo,_m,_m1,_hi,_::_,_x,⟨h0,a,b,k1,k2,k3⟩,hm,h1,h2=>⟨h0,a,b,k1,k2,zbM.snoc k3 hm h1 h2⟩
structure zyd (st:St) (l:List zbr) (st':St):Prop where
 step:Step 0 st st'
 inn:∀ lo M,zcx lo M st.rest->st'.bad=none->∃ N m,zbM N lo m l/\zcx m M st'.rest
variable {n:Nat}
theorem zv0{ex:Rd}(hx:zpb n ex){st:St}(hn:mu st+1<n):
  ∃ r,zmE ex st=some r/\Step 1 st r.2/\∀ lo M,zcx lo M st.rest->r.2.bad=none->lo<=r.1.name.at_/\∃ N m hi,zcx (r.1.name.at_+1) m r.1.params/\In N r.1.e m hi/\zcx hi M r.2.rest:=by
 unfold zmE;have s1:=zhX st;have s2:=zgu (zaL st).2;have s3:=zbE (s:=[61]) (by simp) (zax (zaL st).2).2;have l1:=s1.le;have l2:=s2.le;have l3:=s3.le;obtain ⟨r,h1,h2⟩:=hx true (want [61] (zax (zaL st).2).2) (by omega);have s4:=zbE (s:=[59]) (by simp) r.2;simp only[h1,zzD];refine ⟨_,rfl,((s1.trans s2).trans ((s3.trans h2.step).trans s4)).zkl (by omega),fun lo M hr hb=>?_⟩;have b4:=s4.bad hb;have b3:=h2.step.bad b4;have b2:=s3.bad b3;have b1:=s2.bad b2;obtain ⟨i1,i2⟩:=zmF hr b1;obtain ⟨m,j1,j2⟩:=zg8 i2 b2;obtain ⟨N,hi,k1,k2⟩:=h2.inn _ M (s3.zni _ M j2 b3) b4;exact ⟨i1,N,m,hi,j1,k1.down (by omega),(s4.zni _ M k2 hb).down (by omega)⟩
theorem zjA{n:Nat}{ex:Rd}(hx:zpb n ex):∀ (k:Nat) (l:List zbr) (eO st:St),zyd eO l st->mu st<k->mu st+1<n->∃ r,zcn ex k l st=some r/\zyd eO r.1 r.2
 |0,_,_,_,_,h,_=>absurd h (zAd _)
 |k+1,l,eO,st,hf,hk,hn=>by
  unfold zcn;split
  ·rename_i hc;simp only[zzv,Option.isNone_iff_eq_none]at hc;have bp:=ztD hc.1;obtain ⟨r,h1,h2,h3⟩:=zv0 hx hn;have l2:=h2.le;simp only[h1,zzD];refine zjA hx k (l++[r.1]) eO r.2 ⟨(hf.step.trans h2).zkl (by omega),fun lo M hr hb=>?_⟩ (by rcases h2.mu with h|h <;> omega) (by omega);obtain ⟨N,m,i1,i2⟩:=hf.inn lo M hr (h2.bad hb);obtain ⟨j0,N2,m1,hi,j1,j2,j3⟩:=h3 m M i2 hb;exact ⟨max N N2,hi,(i1.mono (zAB _ _)).snoc j0 j1 (j2.mono (zAr _ _)),j3⟩
  ·exact ⟨_,rfl,hf⟩
theorem zcr(p:UInt8->Bool)(t:List UInt8):(t.takeWhile p).length+(t.drop (t.takeWhile p).length).length=t.length:=by
 rw[zzu];have:=(zAi (l:=t) p).length_le;omega
theorem zeO(t:List UInt8):(first t).2.length<=t.length:=by
 unfold first
 split
 ·simp
 ·rename_i c r;split
  ·unfold word;have:=(zAi (l:=c::r) zlx).length_le;split <;> exact this
  split
  ·unfold zo7;have:=(zAi (l:=c::r) zba).length_le;split
   ·simp
   ·exact this
  split
  ·simp
  ·simp only[zzf];omega
theorem zjg(t:List UInt8)(h:¬ (first t).1<=1):0<(first t).2.length:=by
 unfold first at h ⊢
 split at h
 ·simp at h
 ·rename_i c r;split at h
  ·rename_i hc;rw[if_pos hc];have hw:zlx c=true:=by simp[zlx,hc]
   unfold word;split <;> simp[hw]
  ·rename_i hc;rw[if_neg hc];split at h
   ·rename_i hd;rw[if_pos hd];unfold zo7 at h ⊢;split at h
    ·simp at h
    ·rename_i hl;rw[if_neg hl];simp[hd]
   ·rename_i hd;rw[if_neg hd];split at h
    ·simp at h
    ·rename_i hz;rw[if_neg hz];simp only[zzf];have:0<(c::r).length:=by simp
     omega
theorem zm8(n:Nat)(t:List UInt8)(p:Nat):zdN n t p≠[]:=by
 cases n <;> simp[zdN]
theorem zhu:∀ (n:Nat) (t:List UInt8) (p:Nat),zcx p (p+t.length+1) (zdN n t p)
 |0,t,p=>⟨zyN p,by show p+1<=_;omega⟩
 |n+1,t,p=>by
  have h1:=zcr zda t;have h2:=zeO (t.drop (t.takeWhile zda).length);unfold zdN;refine ⟨by simp,?_⟩;split
  ·show p+(t.takeWhile zda).length+1<=_;omega
  ·rename_i hx;have h3:=zjg _ hx;have ih:=zhu n ((t.drop (t.takeWhile zda).length).drop (first (t.drop (t.takeWhile zda).length)).2.length) (p+(t.takeWhile zda).length+(first (t.drop (t.takeWhile zda).length)).2.length);have he:p+(t.takeWhile zda).length+(first (t.drop (t.takeWhile zda).length)).2.length+((t.drop (t.takeWhile zda).length).drop (first (t.drop (t.takeWhile zda).length)).2.length).length+1=p+t.length+1:=by
    rw[zzu];omega
   rw[he]at ih;exact ih.down (by show p+(t.takeWhile zda).length+1<=_;omega)
theorem zjo(t:List UInt8):∀ c∈t.takeWhile zba,zba c=true:=fun c hc=>by
 have:=List.all_takeWhile (p:=zba) (l:=t);rw[List.all_eq_true]at this;exact this c hc
theorem zrv(t:List UInt8):((first t).1<=1->(first t).2=[])/\(first t).1<=4/\((first t).1=3->(first t).2.length<=9/\∀ c∈(first t).2,zba c=true):=by
 unfold first
 split
 ·exact ⟨fun _=>rfl,by simp,fun h=>by cases h⟩
 ·rename_i c r;split
  ·unfold word;split
   ·exact ⟨fun h=>absurd h (by simp),by simp,fun h=>absurd h (by simp)⟩
   ·exact ⟨fun h=>absurd h (by simp),by simp,fun h=>absurd h (by simp)⟩
  split
  ·unfold zo7;split
   ·exact ⟨fun _=>rfl,by simp,fun h=>absurd h (by simp)⟩
   ·rename_i hl;exact ⟨fun h=>absurd h (by simp),by simp,fun _=>⟨Nat.not_lt.1 hl,zjo _⟩⟩
  split
  ·exact ⟨fun _=>rfl,by simp,fun h=>absurd h (by simp)⟩
  ·exact ⟨fun h=>absurd h (by simp),by simp,fun h=>absurd h (by simp)⟩
theorem zoM:∀ (n:Nat) (t:List UInt8) (p:Nat),t.length<n->(∀ i x,(zdN n t p)[i]?=some x->(x.k<=1↔i+1=(zdN n t p).length))/\∀ x∈zdN n t p,(x.k<=1->x.s=[])/\(2<=x.k->x.s≠[])/\x.k<=4/\x.s.length<=t.length/\(x.k=3->x.s.length<=9/\∀ c∈x.s,zba c=true)
 |0,t,p,h=>absurd h (zAd _)
 |n+1,t,p,h=>by
  have h1:=zcr zda t;generalize hu:t.drop (t.takeWhile zda).length=u at h1;have h2:=zeO u;have h4:=zrv u;have hd:zdN (n+1) t p=⟨(first u).1,(first u).2,p+(t.takeWhile zda).length⟩::(if (first u).1<=1 then [] else zdN n (u.drop (first u).2.length) (p+(t.takeWhile zda).length+(first u).2.length)):=by
   rw[<-hu];rfl
  rw[hd];by_cases hx:(first u).1<=1
  ·rw[if_pos hx];refine ⟨fun i x hi=>?_,fun x hm=>?_⟩
   ·cases i with
    |zero=>
     simp only[zzl,zyP]at hi;subst hi;simp[hx]
    |succ i=>simp at hi
   ·simp only[zze]at hm;subst hm;exact ⟨h4.1,fun h=>absurd hx (by simp only at h;omega),h4.2.1,by simp only;omega,h4.2.2⟩
  ·rw[if_neg hx];have h3:=zjg _ hx;have ih:=zoM n (u.drop (first u).2.length) (p+(t.takeWhile zda).length+(first u).2.length) (by rw[zzu];omega);have hlen:(u.drop (first u).2.length).length<=t.length:=by rw[zzu];omega
   refine ⟨fun i x hi=>?_,fun x hm=>?_⟩
   ·cases i with
    |zero=>
     simp only[zzl,zyP]at hi;subst hi;have aH:=zm8 n (u.drop (first u).2.length) (p+(t.takeWhile zda).length+(first u).2.length);have:=zzA.2 aH;simp only[zy8];constructor
     ·intro h;exact absurd h hx
     ·intro h;omega
    |succ i=>
     rw[zzT]at hi;rw[ih.1 i x hi,zy8];omega
   ·rcases zzo.1 hm with rfl|hm
    ·exact ⟨h4.1,fun _ hn=>by simp only at hn;rw[hn]at h3;simp at h3,h4.2.1,by simp only;omega,h4.2.2⟩
    ·obtain ⟨a,b,c,d,e⟩:=ih.2 x hm;exact ⟨a,b,c,by omega,e⟩
theorem zcx.zyh:∀ {lo M:Nat} {l:List Tok},zcx lo M l->∀ t∈l,t.at_<M
 |_,_,[],_,t,h=>by simp at h
 |lo,M,x::l,hr,t,h=>by
  rcases zzo.1 h with rfl|h
  ·have:=hr.2.len;omega
  ·exact zcx.zyh hr.2 t h
end Th
theorem zev(s:ByteArray)(hs:s.size<=600):Good (zay s):=by
 have hz:s.data.toList.length=s.size:=by rw[zAe];rfl
 have hr:Th.zcx 0 (s.size+1) (zay s):=by
  have:=Th.zhu (s.size+1) s.data.toList 0;rw[hz,zzG]at this;exact this
 have hg:=Th.zoM (s.size+1) s.data.toList 0 (by omega);rw[hz]at hg;have hl:=hr.len;refine ⟨by omega,hg.1,fun t ht=>?_,fun t ht hk=>?_⟩
 ·obtain ⟨a,b,c,d,e⟩:=hg.2 t ht;have:=hr.zyh t ht;exact ⟨a,b,c,by omega,by omega⟩
 ·obtain ⟨a,b,c,d,e⟩:=hg.2 t ht;exact e hk
end Go.Proofs.YtgahgkddaljmkaaGreatDoor
namespace Go.Proofs.YtgahgkddaljmkaaGreatDoor
open Tryz
namespace Th
theorem zlZ{wr:Ex->List (List UInt8)->List Nat}{ae:List (List UInt8)}:∀ {seen:List (List UInt8)} {l:List Tok} {es:List Ex},es.length=l.length->zbq wr ae seen l es=[]->∀ e∈es,wr e ae=[]
 |_,[],[],_,_=>by simp
 |seen,t::r,e::es,hl,h=>by
  rw[zbq]at h;simp only[zAh]at h;intro x hx;rcases zzo.1 hx with rfl|hx
  ·exact h.1.2
  ·exact zlZ (by simpa using hl) h.2 x hx
 |_,[],_::_,hl,_=>by simp at hl
 |_,_::_,[],hl,_=>by simp at hl
theorem zoW{wr:Ex->List (List UInt8)->List Nat}{ae:List (List UInt8)}:∀ {l:List (Nat × List Tok)} {es:List Ex},zeG wr ae l es=[]->∀ (i:Nat) (a:Nat × List Tok) (d:Ex),l[i]?=some a->es[i]?=some d->wr d (ae++texts a.2)=[]
 |[],_,_,i,a,d,h1,_=>by simp at h1
 |_::_,[],_,i,a,d,_,h2=>by simp at h2
 |a::r,e::es,h,i,b,d,h1,h2=>by
  rw[zeG]at h;simp only[zAh]at h;cases i with
  |zero=>simp at h1 h2;subst h1 h2;exact h.1.2
  |succ i=>exact zoW h.2 i b d (by simpa using h1) (by simpa using h2)
theorem zjm{P:Ex->Nat->Nat->Prop}:∀ {lo hi:Nat} {l:List Tok} {es:List Ex},zbd P lo hi l es->∀ e∈es,∃ a b,P e a b
 |_,_,[],[],_=>by simp
 |lo,hi,t::r,e::es,h=>by
  obtain ⟨_,m,h1,h2⟩:=h;intro x hx;rcases zzo.1 hx with rfl|hx
  ·exact ⟨_,_,h1⟩
  ·exact zjm h2 x hx
 |_,_,[],_::_,h=>h.elim
 |_,_,_::_,[],h=>h.elim
theorem zlu{P:Ex->Nat->Nat->Prop}:∀ {lo hi:Nat} {l:List (Nat × List Tok)} {es:List Ex},zcb P lo hi l es->∀ e∈es,∃ a b,P e a b
 |_,_,[],[],_=>by simp
 |lo,hi,t::r,e::es,h=>by
  obtain ⟨_,m,_,h1,h2⟩:=h;intro x hx;rcases zzo.1 hx with rfl|hx
  ·exact ⟨_,_,h1⟩
  ·exact zlu h2 x hx
 |_,_,[],_::_,h=>h.elim
 |_,_,_::_,[],h=>h.elim
theorem zcd{m:Nat}:∀ (N:Nat) (e:Ex) (lo hi:Nat) (ae:List (List UInt8)),In N e lo hi->Cp.Dp m e->zar N e ae=[]->∀ x∈Cp.free m e,x∈ae
 |0,_,_,_,_,h,_,_=>h.elim
 |N+1,e,lo,hi,ae,h,hd,hw=>by
  intro x hx;have ak:=hd.free;rw[ak]at hx;rw[zar]at hw;rcases h.2 with hk|⟨hk,_⟩|⟨hk,b,m',k1,_,k2⟩|⟨hk,e1,e2,m',k1,k2,k3⟩|⟨hk,b,parts,m',k1,k2,k3⟩|⟨hk,b,ag,m',k1,k2,k3⟩
  ·have h2:e.kind≠2:=by omega
   have h4:e.kind≠4:=by omega
   have h5:¬ (e.kind=5\/e.kind=6):=by omega
   have h7:e.kind≠7:=by omega
   have h8:e.kind≠8:=by omega
   have h9:e.kind≠9:=by omega
   simp[h2,h4,h5,h7,h8,h9]at hx
  ·simp only[hk,if_true,zze]at hx hw;rw[hx];by_cases hc:ae.contains e.tok.s
   ·simpa using hc
   ·rw[if_neg hc]at hw;cases hw
  ·simp only[hk,k1]at hx hw;simp[Cp.zaN]at hx hw;have:=zcd N b _ _ _ k2 (hd.kid (by simp[k1])) hw.2 x hx.1;rcases zzi.1 this with h1|h1
   ·exact h1
   ·exact absurd h1 hx.2
  ·have h2:e.kind≠2:=by omega
   have h4:e.kind≠4:=by omega
   simp only[h2,h4,hk,k1,if_false,if_true]at hx hw;simp only[List.headD_cons,List.tail_cons,zAh]at hw;rcases Cp.zaw.1 hx with hx|hx
   ·exact zcd N e1 _ _ _ k2 (hd.kid (by simp[k1])) hw.1 x hx
   ·exact zcd N e2 _ _ _ k3 (hd.kid (by simp[k1])) hw.2 x hx
  ·obtain ⟨_,b',ps,A0,gK⟩:=hd.zea.k7 hk;rw[k1]at A0;cases A0;have body:∀ y∈Cp.zaH (Cp.free m b) (texts e.names),zar N b (ae++texts e.names)=[]->y∈ae:=fun y hy yf=>by
    obtain ⟨y1,y2⟩:=Cp.zaN.1 hy;have:=zcd N b _ _ _ k3 (hd.kid (by simp[k1])) yf y y1;rcases zzi.1 this with h1|h1
    ·exact h1
    ·exact absurd h1 y2
   have bind:∀ ar:List (List UInt8),zbq (zar N) ar [] e.names parts=[]->∀ y∈Cp.zav (Cp.free m) parts [],y∈ar:=fun ar yf y hy=>by
    rcases Cp.zbh.1 hy with hy|⟨p,hp,hy⟩
    ·simp at hy
    ·obtain ⟨a1,a2,hin⟩:=zjm k2 p hp;exact zcd N p _ _ _ hin (hd.kid (by simp[k1,hp])) (zlZ gK yf p hp) y hy
   rcases hk with hk|hk
   ·simp only[hk,k1]at hx hw;simp at hx hw;rcases Cp.zaw.1 hx with hx|hx
    ·exact bind _ hw.1 x hx
    ·exact body x hx hw.2
   ·simp only[hk,k1]at hx hw;simp at hx hw;rcases Cp.zaw.1 hx with hx|hx
    ·obtain ⟨y1,y2⟩:=Cp.zaN.1 hx;rcases zzi.1 (bind _ hw.1 x y1) with h1|h1
     ·exact h1
     ·exact absurd h1 y2
    ·exact body x hx hw.2
  ·simp only[hk,k1]at hx hw;simp at hx hw;rcases Cp.zaw.1 hx with hx|hx
   ·exact zcd N b _ _ _ k2 (hd.kid (by simp[k1])) hw.1 x hx
   ·rcases Cp.zcL.1 hx with hx|⟨i,a,d,i1,i2,i3,i4⟩
    ·simp at hx
    ·have rZ:=zy1 i2;obtain ⟨a1,a2,hin⟩:=zlu k3 d rZ;have:=zcd N d _ _ _ hin (hd.kid (by simp[k1,rZ])) (zoW hw.2 i a d i1 i2) x i3;rcases zzi.1 this with h1|h1
     ·exact h1
     ·exact absurd h1 i4
theorem ztd:∀ (n:Nat) (e:Ex),Cp.Dp n e->∀ x∈Cp.free n e,x≠[]
 |0,_,h=>h.elim
 |n+1,e,h=>by
  intro x hx;have ih:∀ k∈e.kids,∀ y∈Cp.free n k,y≠[]:=fun k hk=>ztd n k (h.2 k hk)
  rw[Cp.free]at hx;split at hx
  ·next hk=>rw[zze.1 hx];exact h.1.us hk
  ·split at hx
   ·split at hx
    ·next b hb=>exact ih b (by simp[hb]) x (Cp.zaN.1 hx).1
    ·simp at hx
   ·split at hx
    ·split at hx
     ·next a b hb=>
      rcases Cp.zaw.1 hx with hx|hx
      ·exact ih a (by simp[hb]) x hx
      ·exact ih b (by simp[hb]) x hx
     ·simp at hx
    ·split at hx
     ·split at hx
      ·next b ps hb=>
       rcases Cp.zaw.1 hx with hx|hx
       ·rcases Cp.zbh.1 hx with hx|⟨p,hp,hx⟩
        ·simp at hx
        ·exact ih p (by simp[hb,hp]) x hx
       ·exact ih b (by simp[hb]) x (Cp.zaN.1 hx).1
      ·simp at hx
     ·split at hx
      ·split at hx
       ·next b ps hb=>
        rcases Cp.zaw.1 hx with hx|hx
        ·rcases Cp.zbh.1 (Cp.zaN.1 hx).1 with hx|⟨p,hp,hx⟩
         ·simp at hx
         ·exact ih p (by simp[hb,hp]) x hx
        ·exact ih b (by simp[hb]) x (Cp.zaN.1 hx).1
       ·simp at hx
      ·split at hx
       ·split at hx
        ·next b bs hb=>
         rcases Cp.zaw.1 hx with hx|hx
         ·exact ih b (by simp[hb]) x hx
         ·rcases Cp.zcL.1 hx with hx|⟨i,a,d,i1,i2,i3,i4⟩
          ·simp at hx
          ·exact ih d (by simp[hb,zy1 i2]) x i3
        ·simp at hx
       ·simp at hx
theorem zxi:∀ {m:Nat} {e:Ex},Cp.Dp m e->Cp.Dp (Cp.wt m e) e
 |0,_,h=>h.elim
 |m+1,e,h=>by
  have hk:∀ k∈e.kids,Cp.Dp (e.names.length+(e.zao.map fun a=>1+a.2.length).sum+(e.kids.map (Cp.wt m)).sum) k:=fun k hk=>by
   refine (zxi (h.2 k hk)).le ?_;have h1:∀ (l:List Ex),k∈l->Cp.wt m k<=(l.map (Cp.wt m)).sum:=by
    intro l
    induction l with
    |nil=>simp
    |cons y l ih=>
     intro hm;rw[zza,zzd];rcases zzo.1 hm with rfl|hm
     ·omega
     ·have:=ih hm;omega
   have:=h1 e.kids hk;omega
  rw[Cp.wt,show 1+e.names.length+(e.zao.map fun a=>1+a.2.length).sum+(e.kids.map (Cp.wt m)).sum=(e.names.length+(e.zao.map fun a=>1+a.2.length).sum+(e.kids.map (Cp.wt m)).sum)+1 by omega];exact ⟨h.1,hk⟩
theorem zl0{n:Nat}{all:List (List UInt8)}:∀ {l:List zbr} {seen:List (List UInt8)},zbL n all seen l=[]->∀ x∈l,zar n x.e (all++texts x.params)=[]
 |[],_,_=>by simp
 |y::l,seen,h=>by
  rw[zbL]at h;simp only[zAh]at h;intro x hx;rcases zzo.1 hx with rfl|hx
  ·exact h.1.2
  ·exact zl0 h.2 x hx
theorem zjn{n:Nat}:∀ {lo hi:Nat} {l:List zbr},zbM n lo hi l->∀ x∈l,∃ a b,In n x.e a b
 |_,_,[],_=>by simp
 |lo,hi,y::l,h=>by
  obtain ⟨_,m1,m2,_,h1,h2⟩:=h;intro x hx;rcases zzo.1 hx with rfl|hx
  ·exact ⟨_,_,h1⟩
  ·exact zjn h2 x hx
theorem zfE:∀ (n:Nat) (t:List UInt8) (p:Nat),(zdN n t p).length<=t.length+1
 |0,t,p=>by simp[zdN]
 |n+1,t,p=>by
  have h1:=zcr zda t;generalize hu:t.drop (t.takeWhile zda).length=u at h1;have h2:=zeO u;have hd:zdN (n+1) t p=⟨(first u).1,(first u).2,p+(t.takeWhile zda).length⟩::(if (first u).1<=1 then [] else zdN n (u.drop (first u).2.length) (p+(t.takeWhile zda).length+(first u).2.length)):=by
   rw[<-hu];rfl
  rw[hd];by_cases hx:(first u).1<=1
  ·rw[if_pos hx];simp
  ·rw[if_neg hx];have h3:=zjg _ hx;have ih:=zfE n (u.drop (first u).2.length) (p+(t.takeWhile zda).length+(first u).2.length);rw[zzu]at ih;simp only[zy8];omega
theorem zgT:∀ {l:List zbr},zbl l=true->zcO∈zaq l
 |[],h=>by simp[zbl]at h
 |x::l,h=>by
  rw[zbl]at h;split at h
  ·next hx=>simp at hx;simp[zaq,hx]
  ·have:=zgT h;simp[zaq]at this ⊢;exact .inr this
structure zyf (D:Nat) (l:List zbr):Prop where
 dp:∀ f∈l,Cp.Dp D f.e
 par:∀ f∈l,∀ t∈f.params,t.s≠[]
 nm:∀ f∈l,∀ x∈Cp.free D f.e,x≠[]/\(x∈texts f.params\/x∈zaq l)
 sum:(l.map fun f=>Cp.wt D f.e+f.params.length+1).sum<=1300
 main:zcO∈zaq l
theorem zhY{l:List zbr}{f:zbr}(g:zbr->Nat)(h:f∈l):g f<=(l.map g).sum:=by
 induction l with
 |nil=>simp at h
 |cons y l ih=>
  rw[zza,zzd];rcases zzo.1 h with rfl|h
  ·omega
  ·have:=ih h;omega
theorem zyf.each{D:Nat}{l:List zbr}(h:zyf D l){f:zbr}(hf:f∈l):Cp.wt D f.e+f.params.length+1<=1300:=zyR (zhY (fun f=>Cp.wt D f.e+f.params.length+1) hf) h.sum
end Th
theorem zqw{T:List Th.Tok}(h:Good T):Th.TK2 ⟨T,none⟩:=by
 intro t ht;refine ⟨fun hk=>?_,fun hk=>((h.text t ht).2.1) (by omega)⟩;obtain ⟨h1,h2⟩:=h.num t ht hk;have h3:=zuM t.s 0 h2;have h4:10 ^ t.s.length<=10 ^ 9:=zz9 (by decide) h1;show t.s.foldl (fun a c=>10*a+(c.toNat-48)) 0<=999999999;omega
variable {s:ByteArray}
variable {q:List Th.zbr × Th.St}
variable {N:Nat}
theorem zmA(hs:s.size<=600)(hp:Plain s q N)(h0:(answer s.size q N).1=0):Th.zyf 1300 q.1:=by
 have hb:q.2.bad=none:=by
  unfold answer at h0;cases hb:q.2.bad with
  |none=>rfl
  |some p=>rw[hb]at h0;simp at h0
 obtain ⟨n,k,_,_,hq⟩:=hp.lines;obtain ⟨lo,hi,hin,_⟩:=hp.within hb;have hl:=Th.zfE (s.size+1) s.data.toList 0;have hz:s.data.toList.length=s.size:=by rw[zAe];rfl
 rw[hz]at hl;have aj:(zay s).length<=s.size+1:=hl;obtain ⟨m,w1,w2⟩:=Th.zgp k [] _ ⟨zay s,none⟩ q hq (zqw hp.zct) (fun _=>⟨0,by simp,0,by simp,by simp⟩) hb;simp only at w2;have AW:Th.zbL N (Th.zaq q.1) [] q.1=[]/\Th.zbl q.1=true:=by
  unfold answer at h0;rw[hb]at h0;simp only at h0;cases hw:Th.zbL N (Th.zaq q.1) [] q.1 with
  |cons p r=>rw[hw]at h0;simp at h0
  |nil=>
   rw[hw]at h0;simp only[List.head?_nil]at h0;refine ⟨rfl,?_⟩;by_cases hm:Th.zbl q.1=true
   ·exact hm
   ·rw[if_neg hm]at h0;simp at h0
 have dj:∀ f∈q.1,Cp.wt m f.e<=1300:=fun f hf=>by have:=Th.zhY (fun f=>Cp.wt m f.e+f.params.length+1) hf;omega
 have hD:∀ f∈q.1,Cp.Dp 1300 f.e:=fun f hf=>(Th.zxi (w1 f hf).1).le (dj f hf)
 have Fq:∀ f∈q.1,Cp.wt 1300 f.e=Cp.wt m f.e:=fun f hf=>by rw[<-Cp.zk9 (hD f hf) (zAc 1300 m),Cp.zk9 (w1 f hf).1 (zz0 m 1300)]
 refine ⟨hD,fun f hf=>(w1 f hf).2,fun f hf x hx=>⟨Th.ztd _ _ (hD f hf) x hx,?_⟩,?_,Th.zgT AW.2⟩
 ·obtain ⟨a,b,hI⟩:=Th.zjn hin f hf;have:=Th.zcd N f.e a b _ hI (hD f hf) (Th.zl0 AW.1 f hf) x hx;rcases zzi.1 this with h|h
  ·exact .inr h
  ·exact .inl h
 ·rw[zAf (fun f hf=>by rw[Fq f hf])];omega
end Go.Proofs.YtgahgkddaljmkaaGreatDoor
namespace Go.Proofs.YtgahgkddaljmkaaGreatDoor
open Tryz
open Go.RowKit Go.Shelf
attribute [local go_sem ↓] Go.wp_at_zero Go.wp_at_succ
theorem zdk{P:Program}{fn:Func}{p u:Tmp}{ty:TypeId}(h:fn.results=#[.cell p ty,.tmp u])(tmps:Array Value)(w:World)(g:Nat)(t:TypeId)(cs:Array Value)(fr:Nat × Nat)(d:TypeDesc)(hp:tmps.getD p undef=.pointer (some ⟨g,0,none⟩))(hg:w.heap[g]?=some (.cells cs t fr))(hu:P.underlying ty=some d)(hd:(match d with|.struct _|.array _ _=>true|_=>false)=true)(hi:(P.info? ty).map (·.size)=some cs.size):
  (results fn tmps).run P w=.ok (.tuple #[.agg cs,tmps.getD u undef]) w:=by
 have lu:tmps[p]?.getD undef=.pointer (some ⟨g,0,none⟩):=by simpa using hp
 simp[results,h,lu,asAddr,run_loadVar_row w g t ty cs fr d hg hu hd hi]
theorem zwW{S:Nat->Prop}{w:World}:∀ {D m:Nat} {v:Value} {e:Th.Ex},Rep S w m v e->Cp.Dp D e->Rep S w D v e
 |0,_,_,_,_,h=>h.elim
 |D+1,0,_,_,h,_=>h.elim
 |D+1,m+1,v,e,h,hd=>by
  have ih:∀ {v:Value} {k:Th.Ex},k∈e.kids->Rep S w m v k->Rep S w D v k:=fun hk hr=>zwW hr (hd.2 _ hk)
  rcases h with h|h|h|⟨hk,sv,bv,b,h1,h2,h3,h4⟩|⟨hk,v1,v2,e1,e2,h1,h2,h3,h4⟩|⟨hk,v1,v2,e1,e2,h1,h2,h3,h4⟩|⟨hk,sv,bv,b,parts,pvs,h1,h2,h3,h4,h5,h6,h7⟩|⟨hk,cv,sv,b,ag,nvs,bvs,h1,h2,h3,h4,h5,h6,h7,h8,h9⟩
  ·exact .inl h
  ·exact .inr (.inl h)
  ·exact .inr (.inr (.inl h))
  ·exact .inr (.inr (.inr (.inl ⟨hk,sv,bv,b,h1,h2,h3,ih (by simp[h1]) h4⟩)))
  ·exact .inr (.inr (.inr (.inr (.inl ⟨hk,v1,v2,e1,e2,h1,h2,ih (by simp[h1]) h3,ih (by simp[h1]) h4⟩))))
  ·exact .inr (.inr (.inr (.inr (.inr (.inl ⟨hk,v1,v2,e1,e2,h1,h2,ih (by simp[h1]) h3,ih (by simp[h1]) h4⟩)))))
  ·exact .inr (.inr (.inr (.inr (.inr (.inr (.inl ⟨hk,sv,bv,b,parts,pvs,h1,h2,h3,h4,h5,fun i pv p a c=>ih (by simp[h1,zy1 c]) (h6 i pv p a c),ih (by simp[h1]) h7⟩))))))
  ·exact .inr (.inr (.inr (.inr (.inr (.inr (.inr ⟨hk,cv,sv,b,ag,nvs,bvs,h1,h2,h3,h4,h5,h6,h7,fun i bv p a c=>ih (by simp[h1,zy1 c]) (h8 i bv p a c),ih (by simp[h1]) h9⟩))))))
theorem znC{S:Nat->Prop}{w:World}{pv:Value}{l:List Th.zbr}(hr:ziZ S w pv l)(ho:Th.zyf 1300 l):
  Calls prog 35 #[pv] w fun e w'=>∃ rv,e=.returned (.agg #[rv,.int .i64 l.length,.int .i64 ((Th.zaq l).idxOf Th.zcO:Nat)])/\zqc w' rv (Cp.program 1300 l)/\Fr (fun _=>False) w w':=by
 obtain ⟨nvs,bvs,m,h1,h2,af,jY⟩:=hr;have hlen:l.length<=1300:=by
  have h0:∀ (l:List Th.zbr),l.length<=(l.map fun f=>Cp.wt 1300 f.e+f.params.length+1).sum:=by
   intro l
   induction l with
   |nil=>simp
   |cons x l ih=>rw[zza,zzd,zy8];omega
  have:=h0 l;have:=ho.sum;omega
 have dh:l.length+(l.map fun f=>8*Cp.wt 1300 f.e).sum<=1000000:=by
  have h0:∀ (l:List Th.zbr),(l.map fun f=>8*Cp.wt 1300 f.e).sum<=8*(l.map fun f=>Cp.wt 1300 f.e+f.params.length+1).sum:=by
   intro l
   induction l with
   |nil=>simp
   |cons x l ih=>rw[zza,zzd,zza,zzd];omega
  have:=h0 l;have:=ho.sum;omega
 have aJ:∀ f∈l,f.params.length<=5000/\∀ bl:List (Nat × List Ins),bl.length+8*Cp.wt 1300 f.e<=1000000->Fit 1300 1300 (Th.zaq l) ⟨bl,(Th.texts f.params).reverse,[]⟩ f.e:=fun f hf=>by
  have he:=ho.each hf;have hp:(1300+8)*Cp.wt 1300 f.e<=(1300+8)*1300:=zzp _ (by omega);refine ⟨by omega,fun bl cV=>⟨ho.dp f hf,by omega,by omega,by simp[Th.zaq];omega,fun x hx=>?_,by simp;omega,by simp[Th.texts];omega,cV⟩⟩;obtain ⟨a,b⟩:=ho.nm f hf x hx;refine ⟨a,?_⟩;rcases b with b|b
  ·exact .inl (by simpa using b)
  ·exact .inr b
 have aX:∀ f∈l,∀ q:Cp.Bs,(Cp.work (Cp.free 1300) (Th.zaq l) 1300 f.e 0 q).blocks.length<=q.blocks.length+8*Cp.wt 1300 f.e/\q.blocks.length<=(Cp.work (Cp.free 1300) (Th.zaq l) 1300 f.e 0 q).blocks.length:=fun f hf q=>by
  have he:=ho.each hf;have h3:=(Cp.zaK 1300 1300 (Th.zaq l) 1300 f.e 0 q (ho.dp f hf) (by omega)).2.2;obtain ⟨⟨⟨bl,e1,_⟩,_⟩,_⟩:=Cp.zbC (M:=1300) 1300 (Th.zaq l) (by omega) 1300 f.e 0 q (ho.dp f hf) (ho.dp f hf) (by omega);refine ⟨by omega,?_⟩;rw[e1];simp
 have xK:zdv S w 1300 l nvs bvs:=fun i x nv bv a b c=>⟨(jY i x nv bv a b c).1,zwW (jY i x nv bv a b c).2 (ho.dp x (zy1 a))⟩
 have hg:=Cp.zn9 (M:=1300) (N:=1300) (l:=l) (by omega) (fun f hf=>⟨ho.dp f hf,by have:=ho.each hf;omega,by have:=ho.each hf;omega⟩);have bp:0<l.length:=by have:=List.length_pos_of_mem ho.main;simpa [Th.zaq] using this
 refine (znB (zo0 1300 (by omega) 1300 (zyN _)) h1 h2 af xK rfl ho.main aJ aX dh).mono ?_;rintro e w' ⟨Z,cb,rv,rfl,aE,ak⟩;exact ⟨rv,rfl,zsQ aE hg.1 (by omega),ak⟩
variable {s:ByteArray}
theorem zoO(h:600<s.size)(heap fuel:Int)(w:World):
  Calls prog 25 #[.string s,.int .i64 heap,.int .i64 fuel] w fun e w'=>e=.returned (.tuple #[ziu 0 0 0 0,.int .i64 1])/\Fr (fun _=>False) w w':=by
 have f0:=zam w (.cells #[.int .i64 0,.int .i64 0,.int .i64 0,.int .i64 0] 35);have dn:=zab (zob h (w.alloc (.cells #[.int .i64 0,.int .i64 0,.int .i64 0,.int .i64 0] 35)));have HB:=zab (Blk.new w [.int .i64 0,.int .i64 0,.int .i64 0,.int .i64 0] 35);have F0:=zab f0;clear f0;go_enter func25,ntmps25
 go_wp2_with fail
 refine dn.o.mono ?_;rintro e w1 ⟨rfl,rfl⟩;go_wp2_with fail
 refine bodyPost_ret (zdk rfl _ _ w.heap.size _ _ _ _ rfl HB.o underlying35 rfl (by kernel_rfl)) rfl ?_;exact ⟨rfl,Fr.below F0.o⟩
variable {q:List Th.zbr × Th.St}
variable {N:Nat}
theorem zuH(hs:s.size<=600)(hp:Plain s q N)(h0:(answer s.size q N).1≠0)(heap fuel:Int)(w:World):
  Calls prog 25 #[.string s,.int .i64 heap,.int .i64 fuel] w fun e w'=>e=.returned (.tuple #[ziu 0 0 0 0,.int .i64 (answer s.size q N).1])/\Fr (fun _=>False) w w':=by
 have f0:=zam w (.cells #[.int .i64 0,.int .i64 0,.int .i64 0,.int .i64 0] 35);have dn:=zab (zmH hs hp (w.alloc (.cells #[.int .i64 0,.int .i64 0,.int .i64 0,.int .i64 0] 35)));have HB:=zab (Blk.new w [.int .i64 0,.int .i64 0,.int .i64 0,.int .i64 0] 35);have F0:=zab f0;clear f0 hp hs;obtain ⟨a,ha⟩:∃ a,answer s.size q N=a:=⟨_,rfl⟩;unfold zl2 at dn;rw[ha]at dn h0 ⊢;obtain ⟨a1,a2⟩:=a;have aH:((a1:Int) == 0)=false:=by rw[beq_eq_false_iff_ne];simp only at h0;omega
 clear ha h0;go_enter func25,ntmps25
 go_wp2_with fail
 refine dn.o.mono ?_;rintro e w1 ⟨hb,pv,rfl,⟨a,k,c,rfl⟩,_⟩;have cU:Blk w1 w.heap.size [.int .i64 0,.int .i64 0,.int .i64 0,.int .i64 0] 35:=Fr.blk (K:=fun _=>False) HB.o (Fr.below hb) (by simp);have p0:=Blk.cell cU 0;have p1:=Blk.cell cU 1;have p2:=Blk.cell cU 2;have p3:=Blk.cell cU 3;have z0:=Blk.frozen cU 0;have z1:=Blk.frozen cU 1;have z2:=Blk.frozen cU 2;have z3:=Blk.frozen cU 3;simp at p0 p1 p2 p3;have cB:=zab cU;have Hb:=zab (F0.o.trans (hb.mono (by simp)));clear hb dn cU;go_wp2_with fail
 refine bodyPost_ret (zdk rfl _ _ w.heap.size _ _ _ _ rfl (Blk.set (Blk.set (Blk.set (Blk.set cB.o 0 _) 1 _) 2 _) 3 _) underlying35 rfl (by kernel_rfl)) rfl ?_;exact ⟨rfl,((((Fr.below Hb.o).set _ _ (.inr (zyN _))).set _ _ (.inr (zyN _))).set _ _ (.inr (zyN _))).set _ _ (.inr (zyN _))⟩
def zb9 (x:Int) (m:Nat):Nat:=(min (max x 0) (m:Int)).toNat
theorem zwv(hs:s.size<=600)(hp:Plain s q N)(h0:(answer s.size q N).1=0)(heap fuel:Int){g:Nat}{k n t a:Int}(hr:∀ pv,runM pv (Cp.program 1300 q.1) q.1.length ((Th.zaq q.1).idxOf Th.zcO) (zb9 heap 262144) (zb9 fuel 4000000) g=some (k,n,t,a))(w:World):
  Calls prog 25 #[.string s,.int .i64 heap,.int .i64 fuel] w fun e w'=>e=.returned (.tuple #[ziu k n t a,.int .i64 0])/\Fr (fun _=>False) w w':=by
 have bU:=zmA hs hp h0;have hlen:q.1.length<=1000000:=by
  have h0:∀ (l:List Th.zbr),l.length<=(l.map fun f=>Cp.wt 1300 f.e+f.params.length+1).sum:=by
   intro l
   induction l with
   |nil=>simp
   |cons x l ih=>rw[zza,zzd,zy8];omega
  have:=h0 q.1;have:=bU.sum;omega
 have hH:((zb9 heap 262144:Nat):Int)=min (max heap 0) 262144:=by unfold zb9;omega
 have hF:((zb9 fuel 4000000:Nat):Int)=min (max fuel 0) 4000000:=by unfold zb9;omega
 have f0:Fr (fun _=>False) w (w.alloc (.cells #[.int .i64 0,.int .i64 0,.int .i64 0,.int .i64 0] 35)):=(Fr.refl _ _).alloc _;have dn:=zab (zmH hs hp (w.alloc (.cells #[.int .i64 0,.int .i64 0,.int .i64 0,.int .i64 0] 35)));have HB:=zab (Blk.new w [.int .i64 0,.int .i64 0,.int .i64 0,.int .i64 0] 35);have F0:=zab f0;have CC:=zab (fun (w1:World) (pv:Value) (hp:ziZ (zat (w.alloc (.cells #[.int .i64 0,.int .i64 0,.int .i64 0,.int .i64 0] 35))) w1 pv q.1)=>znC hp bU);have CR:=zab (fun (w2:World) (rv:Value) (hc:zqc w2 rv (Cp.program 1300 q.1))=>zxI (g:=g) hc hlen (show zb9 heap 262144<=1000000 by unfold zb9;omega) (show zb9 fuel 4000000<=1000000000 by unfold zb9;omega) (hr rv));clear f0 hp hs hr bU;obtain ⟨a',ha⟩:∃ a,answer s.size q N=a:=⟨_,rfl⟩;unfold zl2 at dn;rw[ha]at dn h0;obtain ⟨a1,a2⟩:=a';simp only at h0;subst h0;rw[hH,hF]at CR;clear ha hH hF;go_enter func25,ntmps25
 go_wp2_with fail
 refine dn.o.mono ?_;rintro e w1 ⟨hb,pv,rfl,⟨pa,pk,pc,rfl⟩,aR⟩;have C1:=zab (CC.o w1 _ (aR trivial));have F1:=zab (F0.o.trans (Fr.below hb));have B1:=zab (Fr.blk (K:=fun _=>False) HB.o (Fr.below hb) (by simp));clear hb aR dn CC;go_wp2_with fail
 refine C1.o.mono ?_;rintro e w2 ⟨rv,rfl,hc,f2⟩;have C2:=zab (CR.o w2 rv hc);have F2:=zab (F1.o.trans f2);have B2:=zab (Fr.blk B1.o f2 (by simp));clear hc f2 C1 CR;go_wp2_with fail
 refine C2.o.mono ?_;rintro e w3 ⟨rfl,f3⟩;have ia:=Fr.blk B2.o f3 (by simp);have p0:=Blk.cell ia 0;have p1:=Blk.cell ia 1;have p2:=Blk.cell ia 2;have p3:=Blk.cell ia 3;have z0:=Blk.frozen ia 0;have z1:=Blk.frozen ia 1;have z2:=Blk.frozen ia 2;have z3:=Blk.frozen ia 3;simp at p0 p1 p2 p3;have mw:=zab ia;have F3:=zab (F2.o.trans f3);unfold ziu;clear ia f3 C2;go_wp2_with fail
 refine bodyPost_ret (zdk rfl _ _ w.heap.size _ _ _ _ rfl (Blk.set (Blk.set (Blk.set (Blk.set mw.o 0 _) 1 _) 2 _) 3 _) underlying35 rfl (by kernel_rfl)) rfl ?_;exact ⟨rfl,(((F3.o.set _ _ (.inr (zyN _))).set _ _ (.inr (zyN _))).set _ _ (.inr (zyN _))).set _ _ (.inr (zyN _))⟩
end Go.Proofs.YtgahgkddaljmkaaGreatDoor
namespace Go.Proofs.YtgahgkddaljmkaaGreatDoor
open Tryz
namespace Ab
inductive Nd where
 |num (v:Int)
 |data (t:Nat) (fs:List Nat)
 |clo (b:Nat) (fs:List Nat)
 |busy
 |fwd (a:Nat)
inductive Wd where
 |ad (a:Nat)
 |mk (k b:Nat)
def sz:Nd->Nat
 |.num _=>2
 |.data _ fs=>1+fs.length
 |.clo _ fs=>1+fs.length
 |.busy=>1
 |.fwd _=>1
def zdd:Nd->List Nat
 |.data _ fs=>fs
 |.clo _ fs=>fs
 |_=>[]
def hdr:Nd->Int
 |.num _=>0
 |.data t fs=>Hd 1 t fs.length
 |.clo b fs=>Hd 2 b fs.length
 |.busy=>Hd 3 0 0
 |.fwd _=>0
def zaV:Nd->Bool
 |.fwd _=>true
 |_=>false
def zo6:Nd->Prop
 |.data t fs=>t<=1000000000/\fs.length<4096
 |.clo b fs=>b<=1000000000/\fs.length<4096
 |_=>True
variable {nd:Nd}
theorem zde(h:zo6 nd):0<=hdr nd/\hdr nd<9223372036854775808:=by
 cases nd <;> simp only[hdr,zo6]at * <;> (try unfold Hd) <;> omega
theorem zmn(hf:zaV nd=false):hdr nd%16≠4/\hdr nd%16≠5:=by
 cases nd <;> simp only[hdr] <;> first|(constructor <;> decide)|(unfold Hd;omega)|simp[zaV]at hf
theorem zlr(h:zo6 nd)(hf:zaV nd=false):behind (hdr nd)+1=sz nd:=by
 cases nd with
 |num v=>simp[behind,hdr,sz]
 |data t fs=>
  simp only[zo6]at h;unfold behind;rw[if_neg (by simp only[hdr];rw[zbx (by omega)];omega)];simp only[hdr,sz];rw[zeb (by omega) h.2];omega
 |clo t fs=>
  simp only[zo6]at h;unfold behind;rw[if_neg (by simp only[hdr];rw[zbx (by omega)];omega)];simp only[hdr,sz];rw[zeb (by omega) h.2];omega
 |busy=>simp[behind,hdr,sz,Hd]
 |fwd a=>simp[zaV]at hf
theorem ztf(h:zo6 nd)(hf:zaV nd=false):(hdr nd/16%4096).toNat=(zdd nd).length:=by
 cases nd with
 |num v=>simp[hdr,zdd]
 |data t fs=>
  simp only[zo6]at h;simp only[hdr,zdd];rw[zeb (by omega) h.2];omega
 |clo t fs=>
  simp only[zo6]at h;simp only[hdr,zdd];rw[zeb (by omega) h.2];omega
 |busy=>simp[hdr,zdd,Hd]
 |fwd a=>simp[zaV]at hf
theorem zep(nd:Nd):(zdd nd).length+1<=sz nd:=by cases nd <;> simp[zdd,sz] <;> omega
theorem zhd(nd:Nd):1<=sz nd:=by cases nd <;> simp[sz]
def Rf (φ:Nat->Option Nat) (h:List Nd) (x:Int) (a:Nat):Prop:=∃ p:Nat,x=(p:Int)/\(φ a=some p\/∃ b,h[a]?=some (.fwd b)/\φ b=some p)
def RW (φ:Nat->Option Nat) (h:List Nd) (x:Int):Wd->Prop
 |.ad a=>Rf φ h x a
 |.mk k b=>x=Mk k b
def AtC (ws:List Int) (ρ:Int->Nat->Prop) (p:Nat) (nd:Nd):Prop:=ws[p]?=some (hdr nd)/\(∀ v,nd=.num v->ws[p+1]?=some v)/\∀ (i:Nat) (f:Nat),(zdd nd)[i]?=some f->∃ x,ws[p+1+i]?=some x/\ρ x f
def At (ws:List Int) (φ:Nat->Option Nat) (h:List Nd) (p:Nat) (nd:Nd):Prop:=(∃ b p',nd=.fwd b/\φ b=some p'/\ws[p]?=some (Hd 4 p' 0))\/(zaV nd=false/\AtC ws (Rf φ h) p nd)
structure Rel (s:Sto) (fc:List Int) (h:List Nd) (st:List Wd) (fns:List Nat) (φ:Nat->Option Nat):Prop where
 low:s.low=0\/s.low=s.half
 len:2*s.half<=s.ws.length
 wl:s.ws.length<=1000000
 lf:s.low<=s.free
 ft:s.free<=s.top
 tp:s.top+st.length=s.low+s.half
 stk:∀ (i:Nat) (w:Wd),st[i]?=some w->∃ x,s.ws[s.low+s.half-1-i]?=some x/\RW φ h x w
 fl:fc.length=fns.length
 fn:∀ (i:Nat) (a:Nat),fns[i]?=some a->∃ x,fc[i]?=some x/\Rf φ h x a
 nod:∀ a p,φ a=some p->∃ nd,h[a]?=some nd/\s.low<=p/\p+sz nd<=s.free/\At s.ws φ h p nd
 dis:∀ a a' p p' nd nd',φ a=some p->φ a'=some p'->h[a]?=some nd->h[a']?=some nd'->a≠a'->p+sz nd<=p'\/p'+sz nd'<=p
 ok:∀ (a:Nat) (nd:Nd),h[a]?=some nd->zo6 nd
 fw:∀ (a b:Nat),h[a]?=some (.fwd b)->∃ nd,h[b]?=some nd/\zaV nd=false
def can (h:List Nd) (a:Nat):Nat:=
 match h[a]? with
 |some (.fwd b)=>b
 |_=>a
theorem zbu{α:Type}(L:List α)(off:Nat)(cs:List α)(i:Nat)(h:off+cs.length<=L.length):(Go.splice L off cs)[i]?=if i<off then L[i]? else if i<off+cs.length then cs[i-off]? else L[i]?:=by
 unfold Go.splice;rw[zzj,zzf,zzV (by omega)];split
 ·next hi=>rw[zzy,if_pos hi]
 ·next hi=>
  rw[zzj];split
  ·next h2=>rw[if_pos (by omega)]
  ·next h2=>
   rw[if_neg (by omega),zzx];congr 1;omega
theorem zju:∀ (n:Nat) (l:List Nat),l.Nodup->(∀ x∈l,x<n)->l.length<=n
 |0,l,_,h=>by
  cases l with
  |nil=>simp
  |cons x l=>have:=h x (by simp);omega
 |n+1,l,hn,h=>by
  by_cases hm:n∈l
  ·have h1:=zju n (l.erase n) (hn.erase n) (fun x hx=>by
    have h2:=List.mem_of_mem_erase hx;have h3:=h x h2;have h4:x≠n:=fun e=>by
     subst e;exact (List.Nodup.not_mem_erase hn) hx
    omega)
   rw[List.length_erase_of_mem hm]at h1;omega
  ·have h1:=zju n l hn (fun x hx=>by
    have h3:=h x hx;have h4:x≠n:=fun e=>hm (e ▸ hx)
    omega)
   omega
theorem ztZ(lo hi:Nat)(l:List (Nat × Nat))(h1:∀ x∈l,lo<=x.1/\x.1+x.2<=hi)(h2:l.Pairwise fun x y=>x.1+x.2<=y.1\/y.1+y.2<=x.1):(l.map Prod.snd).sum<=hi-lo:=by
 have hl:∀ l:List (Nat × Nat),(l.flatMap fun x=>(List.range x.2).map fun j=>x.1-lo+j).length=(l.map Prod.snd).sum:=by
  intro l
  induction l with
  |nil=>rfl
  |cons x l ih=>simp[List.flatMap_cons,ih]
 have cQ:∀ (l:List (Nat × Nat)) (y:Nat),y∈(l.flatMap fun x=>(List.range x.2).map fun j=>x.1-lo+j)->∃ x∈l,x.1-lo<=y/\y<x.1-lo+x.2:=by
  intro l y hy;obtain ⟨x,hx,hy⟩:=List.mem_flatMap.1 hy;obtain ⟨j,hj,rfl⟩:=zz1.1 hy;have:=List.mem_range.1 hj;exact ⟨x,hx,by omega,by omega⟩
 have eZ:∀ l:List (Nat × Nat),(∀ x∈l,lo<=x.1)->(l.Pairwise fun x y=>x.1+x.2<=y.1\/y.1+y.2<=x.1)->(l.flatMap fun x=>(List.range x.2).map fun j=>x.1-lo+j).Nodup:=by
  intro l fN hp
  induction l with
  |nil=>simp
  |cons x l ih=>
   rw[List.flatMap_cons,List.nodup_append];rw[List.pairwise_cons]at hp;refine ⟨?_,ih (fun y hy=>fN y (by simp[hy])) hp.2,?_⟩
   ·rw[List.Nodup,List.pairwise_map];exact List.Pairwise.imp (fun h=>by omega) List.nodup_range
   ·intro a ha b hb;obtain ⟨j,hj,rfl⟩:=zz1.1 ha;have:=List.mem_range.1 hj;obtain ⟨y,hy,y1,y2⟩:=cQ l b hb;have h3:=hp.1 y hy;have h4:=fN x (by simp);have h5:=fN y (by simp[hy]);omega
 rw[<-hl];refine zju _ _ (eZ l (fun x hx=>(h1 x hx).1) h2) ?_;intro y hy;obtain ⟨x,hx,y1,y2⟩:=cQ l y hy;have:=h1 x hx;omega
end Ab
end Go.Proofs.YtgahgkddaljmkaaGreatDoor
