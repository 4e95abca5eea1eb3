/- Plain4 .. Gc1 -/
import Derived.Test.YtgahgkddaljmkaaGreatDoorV32
import Derived.Test.YtgahgkddaljmkaaGreatDoorV30
import Derived.Test.YtgahgkddaljmkaaGreatDoorV28
import Derived.Test.YtgahgkddaljmkaaGreatDoorV29
import Derived.Test.YtgahgkddaljmkaaGreatDoorV18
import Derived.Test.YtgahgkddaljmkaaGreatDoorV1
set_option maxRecDepth 100000
set_option maxHeartbeats 4000000
namespace Go.Proofs.YtgahgkddaljmkaaGreatDoor
namespace Th
theorem zbM.mono{n m:Nat}(hm:n<=m):∀ {lo hi:Nat} {l:List zbq},zbM n lo hi l->zbM m lo hi l
 |_,_,[],h=>h
 |_,_,_::_,⟨h0,m1,m2,h1,h2,h3⟩=>⟨h0,m1,m2,h1,h2.mono hm,zbM.mono hm h3⟩
theorem zbM.snoc{n:Nat}:∀ {lo m m1 hi:Nat} {l:List zbq} {x:zbq},zbM n lo m l->m<=x.name.at_->zcx (x.name.at_+1) m1 x.params->In n x.e m1 hi->zbM n lo hi (l++[x])
 |_lo,_m,m1,hi,[],_x,h,hm,h1,h2=>⟨zxN h hm,m1,hi,h1,h2,zxJ _⟩
 |_lo,_m,_m1,_hi,_::_,_x,⟨h0,a,b,k1,k2,k3⟩,hm,h1,h2=>⟨h0,a,b,k1,k2,zbM.snoc k3 hm h1 h2⟩
structure jd5 (st:St) (l:List zbq) (st':St):Prop where
 step:Step 0 st st'
 inn:∀ lo M,zcx lo M st.rest->st'.bad=none->∃ N m,zbM N lo m l/\zcx m M st'.rest
variable {n:Nat}
theorem jdU{ex:Rd}(hx:zo4 n ex){st:St}(hn:mu st+1<n):
  ∃ r,zmx ex st=some r/\Step 1 st r.2/\∀ lo M,zcx lo M st.rest->r.2.bad=none->lo<=r.1.name.at_/\∃ N m hi,zcx (r.1.name.at_+1) m r.1.params/\In N r.1.e m hi/\zcx hi M r.2.rest:=by
 unfold zmx;have s1:=zhx st;have s2:=zgs (zaK st).2;have s3:=zbE (s:=[61]) (by simp) (zax (zaK st).2).2;have l1:=s1.le;have l2:=s2.le;have l3:=s3.le;obtain ⟨r,h1,h2⟩:=hx true (want [61] (zax (zaK st).2).2) (by omega);have s4:=zbE (s:=[59]) (by simp) r.2;simp only[h1,zyy];refine ⟨_,rfl,((s1.trans s2).trans ((s3.trans h2.step).trans s4)).ziY (by omega),fun lo M hr hb=>?_⟩;have b4:=s4.bad hb;have b3:=h2.step.bad b4;have b2:=s3.bad b3;have b1:=s2.bad b2;obtain ⟨i1,i2⟩:=zmk hr b1;obtain ⟨m,j1,j2⟩:=zgD i2 b2;obtain ⟨N,hi,k1,k2⟩:=h2.inn _ M (s3.zm2 _ M j2 b3) b4;exact ⟨i1,N,m,hi,j1,k1.down (by omega),(s4.zm2 _ M k2 hb).down (by omega)⟩
theorem zjq{n:Nat}{ex:Rd}(hx:zo4 n ex):∀ (k:Nat) (l:List zbq) (st0 st:St),jd5 st0 l st->mu st<k->mu st+1<n->∃ r,zcG ex k l st=some r/\jd5 st0 r.1 r.2
 |0,_,_,_,_,h,_=>absurd h (zy8 _)
 |k+1,l,st0,st,hf,hk,hn=>by
  unfold zcG;split
  ·rename_i hc;simp only[zyx,Option.isNone_iff_eq_none]at hc;have hpos:=zsh hc.1;obtain ⟨r,h1,h2,h3⟩:=jdU hx hn;have l2:=h2.le;simp only[h1,zyy];refine zjq hx k (l++[r.1]) st0 r.2 ⟨(hf.step.trans h2).ziY (by omega),fun lo M hr hb=>?_⟩ (by rcases h2.mu with h|h <;> omega) (by omega);obtain ⟨N,m,i1,i2⟩:=hf.inn lo M hr (h2.bad hb);obtain ⟨j0,N2,m1,hi,j1,j2,j3⟩:=h3 m M i2 hb;exact ⟨max N N2,hi,(i1.mono (zzv _ _)).snoc j0 j1 (j2.mono (zzm _ _)),j3⟩
  ·exact ⟨_,rfl,hf⟩
theorem jaF(p:UInt8->Bool)(t:List UInt8):(t.takeWhile p).length+(t.drop (t.takeWhile p).length).length=t.length:=by
 rw[zyp];have:=(zzb (l:=t) p).length_le;omega
theorem zeJ(t:List UInt8):(first t).2.length<=t.length:=by
 unfold first
 split
 ·simp
 ·rename_i c r;split
  ·unfold word;have:=(zzb (l:=c::r) zmK).length_le;split <;> exact this
  split
  ·unfold zqs;have:=(zzb (l:=c::r) zbv).length_le;split
   ·simp
   ·exact this
  split
  ·simp
  ·simp only[zyb];omega
theorem jbJ(t:List UInt8)(h:¬ (first t).1<=1):0<(first t).2.length:=by
 unfold first at h ⊢
 split at h
 ·simp at h
 ·rename_i c r;split at h
  ·rename_i hc;rw[if_pos hc];have hw:zmK c=true:=by simp[zmK,hc]
   unfold word;split <;> simp[hw]
  ·rename_i hc;rw[if_neg hc];split at h
   ·rename_i hd;rw[if_pos hd];unfold zqs at h ⊢;split at h
    ·simp at h
    ·rename_i hl;rw[if_neg hl];simp[hd]
   ·rename_i hd;rw[if_neg hd];split at h
    ·simp at h
    ·rename_i hz;rw[if_neg hz];simp only[zyb];have:0<(c::r).length:=by simp
     omega
theorem zlP(n:Nat)(t:List UInt8)(p:Nat):zfR n t p≠[]:=by
 cases n <;> simp[zfR]
theorem zhp:∀ (n:Nat) (t:List UInt8) (p:Nat),zcx p (p+t.length+1) (zfR n t p)
 |0,t,p=>⟨zxJ p,by show p+1<=_;omega⟩
 |n+1,t,p=>by
  have h1:=jaF zdr t;have h2:=zeJ (t.drop (t.takeWhile zdr).length);unfold zfR;refine ⟨by simp,?_⟩;split
  ·show p+(t.takeWhile zdr).length+1<=_;omega
  ·rename_i hx;have h3:=jbJ _ hx;have ih:=zhp n ((t.drop (t.takeWhile zdr).length).drop (first (t.drop (t.takeWhile zdr).length)).2.length) (p+(t.takeWhile zdr).length+(first (t.drop (t.takeWhile zdr).length)).2.length);have he:p+(t.takeWhile zdr).length+(first (t.drop (t.takeWhile zdr).length)).2.length+((t.drop (t.takeWhile zdr).length).drop (first (t.drop (t.takeWhile zdr).length)).2.length).length+1=p+t.length+1:=by
    rw[zyp];omega
   rw[he]at ih;exact ih.down (by show p+(t.takeWhile zdr).length+1<=_;omega)
theorem jbF(t:List UInt8):∀ c∈t.takeWhile zbv,zbv c=true:=fun c hc=>by
 have:=List.all_takeWhile (p:=zbv) (l:=t);rw[List.all_eq_true]at this;exact this c hc
theorem zrT(t:List UInt8):((first t).1<=1->(first t).2=[])/\(first t).1<=4/\((first t).1=3->(first t).2.length<=9/\∀ c∈(first t).2,zbv c=true):=by
 unfold first
 split
 ·exact ⟨fun _=>rfl,by simp,fun h=>by cases h⟩
 ·rename_i c r;split
  ·unfold word;split
   ·exact ⟨fun h=>absurd h (by simp),by simp,fun h=>absurd h (by simp)⟩
   ·exact ⟨fun h=>absurd h (by simp),by simp,fun h=>absurd h (by simp)⟩
  split
  ·unfold zqs;split
   ·exact ⟨fun _=>rfl,by simp,fun h=>absurd h (by simp)⟩
   ·rename_i hl;exact ⟨fun h=>absurd h (by simp),by simp,fun _=>⟨Nat.not_lt.1 hl,jbF _⟩⟩
  split
  ·exact ⟨fun _=>rfl,by simp,fun h=>absurd h (by simp)⟩
  ·exact ⟨fun h=>absurd h (by simp),by simp,fun h=>absurd h (by simp)⟩
theorem jcI:∀ (n:Nat) (t:List UInt8) (p:Nat),t.length<n->(∀ i x,(zfR n t p)[i]?=some x->(x.k<=1↔i+1=(zfR n t p).length))/\∀ x∈zfR n t p,(x.k<=1->x.s=[])/\(2<=x.k->x.s≠[])/\x.k<=4/\x.s.length<=t.length/\(x.k=3->x.s.length<=9/\∀ c∈x.s,zbv c=true)
 |0,t,p,h=>absurd h (zy8 _)
 |n+1,t,p,h=>by
  have h1:=jaF zdr t;generalize hu:t.drop (t.takeWhile zdr).length=u at h1;have h2:=zeJ u;have h4:=zrT u;have hd:zfR (n+1) t p=⟨(first u).1,(first u).2,p+(t.takeWhile zdr).length⟩::(if (first u).1<=1 then [] else zfR n (u.drop (first u).2.length) (p+(t.takeWhile zdr).length+(first u).2.length)):=by
   rw[<-hu];rfl
  rw[hd];by_cases hx:(first u).1<=1
  ·rw[if_pos hx];refine ⟨fun i x hi=>?_,fun x hm=>?_⟩
   ·cases i with
    |zero=>
     simp only[zyh,zxL]at hi;subst hi;simp[hx]
    |succ i=>simp at hi
   ·simp only[zya]at hm;subst hm;exact ⟨h4.1,fun h=>absurd hx (by simp only at h;omega),h4.2.1,by simp only;omega,h4.2.2⟩
  ·rw[if_neg hx];have h3:=jbJ _ hx;have ih:=jcI n (u.drop (first u).2.length) (p+(t.takeWhile zdr).length+(first u).2.length) (by rw[zyp];omega);have hlen:(u.drop (first u).2.length).length<=t.length:=by rw[zyp];omega
   refine ⟨fun i x hi=>?_,fun x hm=>?_⟩
   ·cases i with
    |zero=>
     simp only[zyh,zxL]at hi;subst hi;have hne:=zlP n (u.drop (first u).2.length) (p+(t.takeWhile zdr).length+(first u).2.length);have:=zyz.2 hne;simp only[zx3];constructor
     ·intro h;exact absurd h hx
     ·intro h;omega
    |succ i=>
     rw[zyP]at hi;rw[ih.1 i x hi,zx3];omega
   ·rcases zyk.1 hm with rfl|hm
    ·exact ⟨h4.1,fun _ hn=>by simp only at hn;rw[hn]at h3;simp at h3,h4.2.1,by simp only;omega,h4.2.2⟩
    ·obtain ⟨a,b,c,d,e⟩:=ih.2 x hm;exact ⟨a,b,c,by omega,e⟩
theorem zcx.zxg:∀ {lo M:Nat} {l:List Tok},zcx lo M l->∀ t∈l,t.at_<M
 |_,_,[],_,t,h=>by simp at h
 |lo,M,x::l,hr,t,h=>by
  rcases zyk.1 h with rfl|h
  ·have:=hr.2.len;omega
  ·exact zcx.zxg hr.2 t h
end Th
theorem zee(s:ByteArray)(hs:s.size<=600):Good (zaB s):=by
 have hz:s.data.toList.length=s.size:=by rw[zy9];rfl
 have hr:Th.zcx 0 (s.size+1) (zaB s):=by
  have:=Th.zhp (s.size+1) s.data.toList 0;rw[hz,zyC]at this;exact this
 have hg:=Th.jcI (s.size+1) s.data.toList 0 (by omega);rw[hz]at hg;have hl:=hr.len;refine ⟨by omega,hg.1,fun t ht=>?_,fun t ht hk=>?_⟩
 ·obtain ⟨a,b,c,d,e⟩:=hg.2 t ht;have:=hr.zxg t ht;exact ⟨a,b,c,by omega,by omega⟩
 ·obtain ⟨a,b,c,d,e⟩:=hg.2 t ht;exact e hk
end Go.Proofs.YtgahgkddaljmkaaGreatDoor
namespace Go.Proofs.YtgahgkddaljmkaaGreatDoor
namespace Th
theorem jbV{wr:Ex->List (List UInt8)->List Nat}{around:List (List UInt8)}:∀ {seen:List (List UInt8)} {l:List Tok} {es:List Ex},es.length=l.length->zbo wr around seen l es=[]->∀ e∈es,wr e around=[]
 |_,[],[],_,_=>by simp
 |seen,t::r,e::es,hl,h=>by
  rw[zbo]at h;simp only[zzc]at h;intro x hx;rcases zyk.1 hx with rfl|hx
  ·exact h.1.2
  ·exact jbV (by simpa using hl) h.2 x hx
 |_,[],_::_,hl,_=>by simp at hl
 |_,_::_,[],hl,_=>by simp at hl
theorem znx{wr:Ex->List (List UInt8)->List Nat}{around:List (List UInt8)}:∀ {l:List (Nat × List Tok)} {es:List Ex},zeC wr around l es=[]->∀ (i:Nat) (a:Nat × List Tok) (d:Ex),l[i]?=some a->es[i]?=some d->wr d (around++texts a.2)=[]
 |[],_,_,i,a,d,h1,_=>by simp at h1
 |_::_,[],_,i,a,d,_,h2=>by simp at h2
 |a::r,e::es,h,i,b,d,h1,h2=>by
  rw[zeC]at h;simp only[zzc]at h;cases i with
  |zero=>simp at h1 h2;subst h1 h2;exact h.1.2
  |succ i=>exact znx h.2 i b d (by simpa using h1) (by simpa using h2)
theorem jbO{P:Ex->Nat->Nat->Prop}:∀ {lo hi:Nat} {l:List Tok} {es:List Ex},zbc P lo hi l es->∀ e∈es,∃ a b,P e a b
 |_,_,[],[],_=>by simp
 |lo,hi,t::r,e::es,h=>by
  obtain ⟨_,m,h1,h2⟩:=h;intro x hx;rcases zyk.1 hx with rfl|hx
  ·exact ⟨_,_,h1⟩
  ·exact jbO h2 x hx
 |_,_,[],_::_,h=>h.elim
 |_,_,_::_,[],h=>h.elim
theorem jbQ{P:Ex->Nat->Nat->Prop}:∀ {lo hi:Nat} {l:List (Nat × List Tok)} {es:List Ex},zce P lo hi l es->∀ e∈es,∃ a b,P e a b
 |_,_,[],[],_=>by simp
 |lo,hi,t::r,e::es,h=>by
  obtain ⟨_,m,_,h1,h2⟩:=h;intro x hx;rcases zyk.1 hx with rfl|hx
  ·exact ⟨_,_,h1⟩
  ·exact jbQ h2 x hx
 |_,_,[],_::_,h=>h.elim
 |_,_,_::_,[],h=>h.elim
theorem zb8{m:Nat}:∀ (N:Nat) (e:Ex) (lo hi:Nat) (around:List (List UInt8)),In N e lo hi->Cp.Dp m e->zar N e around=[]->∀ x∈Cp.free m e,x∈around
 |0,_,_,_,_,h,_,_=>h.elim
 |N+1,e,lo,hi,around,h,hd,hw=>by
  intro x hx;have hfr:=hd.free;rw[hfr]at hx;rw[zar]at hw;rcases h.2 with hk|⟨hk,_⟩|⟨hk,b,m',k1,_,k2⟩|⟨hk,e1,e2,m',k1,k2,k3⟩|⟨hk,b,parts,m',k1,k2,k3⟩|⟨hk,b,bodies,m',k1,k2,k3⟩
  ·have h2:e.kind≠2:=by omega
   have h4:e.kind≠4:=by omega
   have h5:¬ (e.kind=5\/e.kind=6):=by omega
   have h7:e.kind≠7:=by omega
   have h8:e.kind≠8:=by omega
   have h9:e.kind≠9:=by omega
   simp[h2,h4,h5,h7,h8,h9]at hx
  ·simp only[hk,if_true,zya]at hx hw;rw[hx];by_cases hc:around.contains e.tok.s
   ·simpa using hc
   ·rw[if_neg hc]at hw;cases hw
  ·simp only[hk,k1]at hx hw;simp[Cp.zaL]at hx hw;have:=zb8 N b _ _ _ k2 (hd.kid (by simp[k1])) hw.2 x hx.1;rcases zyc.1 this with h1|h1
   ·exact h1
   ·exact absurd h1 hx.2
  ·have h2:e.kind≠2:=by omega
   have h4:e.kind≠4:=by omega
   simp only[h2,h4,hk,k1,if_false,if_true]at hx hw;simp only[List.headD_cons,List.tail_cons,zzc]at hw;rcases Cp.zav.1 hx with hx|hx
   ·exact zb8 N e1 _ _ _ k2 (hd.kid (by simp[k1])) hw.1 x hx
   ·exact zb8 N e2 _ _ _ k3 (hd.kid (by simp[k1])) hw.2 x hx
  ·obtain ⟨_,b',ps,k1',hpl⟩:=hd.zd4.k7 hk;rw[k1]at k1';cases k1';have body:∀ y∈Cp.zaG (Cp.free m b) (texts e.names),zar N b (around++texts e.names)=[]->y∈around:=fun y hy hwb=>by
    obtain ⟨y1,y2⟩:=Cp.zaL.1 hy;have:=zb8 N b _ _ _ k3 (hd.kid (by simp[k1])) hwb y y1;rcases zyc.1 this with h1|h1
    ·exact h1
    ·exact absurd h1 y2
   have bind:∀ ar:List (List UInt8),zbo (zar N) ar [] e.names parts=[]->∀ y∈Cp.zaw (Cp.free m) parts [],y∈ar:=fun ar hwb y hy=>by
    rcases Cp.zbf.1 hy with hy|⟨p,hp,hy⟩
    ·simp at hy
    ·obtain ⟨a1,a2,hin⟩:=jbO k2 p hp;exact zb8 N p _ _ _ hin (hd.kid (by simp[k1,hp])) (jbV hpl hwb p hp) y hy
   rcases hk with hk|hk
   ·simp only[hk,k1]at hx hw;simp at hx hw;rcases Cp.zav.1 hx with hx|hx
    ·exact bind _ hw.1 x hx
    ·exact body x hx hw.2
   ·simp only[hk,k1]at hx hw;simp at hx hw;rcases Cp.zav.1 hx with hx|hx
    ·obtain ⟨y1,y2⟩:=Cp.zaL.1 hx;rcases zyc.1 (bind _ hw.1 x y1) with h1|h1
     ·exact h1
     ·exact absurd h1 y2
    ·exact body x hx hw.2
  ·simp only[hk,k1]at hx hw;simp at hx hw;rcases Cp.zav.1 hx with hx|hx
   ·exact zb8 N b _ _ _ k2 (hd.kid (by simp[k1])) hw.1 x hx
   ·rcases Cp.zcM.1 hx with hx|⟨i,a,d,i1,i2,i3,i4⟩
    ·simp at hx
    ·have hdm:=zxX i2;obtain ⟨a1,a2,hin⟩:=jbQ k3 d hdm;have:=zb8 N d _ _ _ hin (hd.kid (by simp[k1,hdm])) (znx hw.2 i a d i1 i2) x i3;rcases zyc.1 this with h1|h1
     ·exact h1
     ·exact absurd h1 i4
theorem jdA:∀ (n:Nat) (e:Ex),Cp.Dp n e->∀ x∈Cp.free n e,x≠[]
 |0,_,h=>h.elim
 |n+1,e,h=>by
  intro x hx;have ih:∀ k∈e.kids,∀ y∈Cp.free n k,y≠[]:=fun k hk=>jdA n k (h.2 k hk)
  rw[Cp.free]at hx;split at hx
  ·next hk=>rw[zya.1 hx];exact h.1.us hk
  ·split at hx
   ·split at hx
    ·next b hb=>exact ih b (by simp[hb]) x (Cp.zaL.1 hx).1
    ·simp at hx
   ·split at hx
    ·split at hx
     ·next a b hb=>
      rcases Cp.zav.1 hx with hx|hx
      ·exact ih a (by simp[hb]) x hx
      ·exact ih b (by simp[hb]) x hx
     ·simp at hx
    ·split at hx
     ·split at hx
      ·next b ps hb=>
       rcases Cp.zav.1 hx with hx|hx
       ·rcases Cp.zbf.1 hx with hx|⟨p,hp,hx⟩
        ·simp at hx
        ·exact ih p (by simp[hb,hp]) x hx
       ·exact ih b (by simp[hb]) x (Cp.zaL.1 hx).1
      ·simp at hx
     ·split at hx
      ·split at hx
       ·next b ps hb=>
        rcases Cp.zav.1 hx with hx|hx
        ·rcases Cp.zbf.1 (Cp.zaL.1 hx).1 with hx|⟨p,hp,hx⟩
         ·simp at hx
         ·exact ih p (by simp[hb,hp]) x hx
        ·exact ih b (by simp[hb]) x (Cp.zaL.1 hx).1
       ·simp at hx
      ·split at hx
       ·split at hx
        ·next b bs hb=>
         rcases Cp.zav.1 hx with hx|hx
         ·exact ih b (by simp[hb]) x hx
         ·rcases Cp.zcM.1 hx with hx|⟨i,a,d,i1,i2,i3,i4⟩
          ·simp at hx
          ·exact ih d (by simp[hb,zxX i2]) x i3
        ·simp at hx
       ·simp at hx
theorem zwR:∀ {m:Nat} {e:Ex},Cp.Dp m e->Cp.Dp (Cp.wt m e) e
 |0,_,h=>h.elim
 |m+1,e,h=>by
  have hk:∀ k∈e.kids,Cp.Dp (e.names.length+(e.zao.map fun a=>1+a.2.length).sum+(e.kids.map (Cp.wt m)).sum) k:=fun k hk=>by
   refine (zwR (h.2 k hk)).le ?_;have h1:∀ (l:List Ex),k∈l->Cp.wt m k<=(l.map (Cp.wt m)).sum:=by
    intro l
    induction l with
    |nil=>simp
    |cons y l ih=>
     intro hm;rw[zx6,zx9];rcases zyk.1 hm with rfl|hm
     ·omega
     ·have:=ih hm;omega
   have:=h1 e.kids hk;omega
  rw[Cp.wt,show 1+e.names.length+(e.zao.map fun a=>1+a.2.length).sum+(e.kids.map (Cp.wt m)).sum=(e.names.length+(e.zao.map fun a=>1+a.2.length).sum+(e.kids.map (Cp.wt m)).sum)+1 by omega];exact ⟨h.1,hk⟩
theorem jbS{n:Nat}{all:List (List UInt8)}:∀ {l:List zbq} {seen:List (List UInt8)},zbH n all seen l=[]->∀ x∈l,zar n x.e (all++texts x.params)=[]
 |[],_,_=>by simp
 |y::l,seen,h=>by
  rw[zbH]at h;simp only[zzc]at h;intro x hx;rcases zyk.1 hx with rfl|hx
  ·exact h.1.2
  ·exact jbS h.2 x hx
theorem ja9{n:Nat}:∀ {lo hi:Nat} {l:List zbq},zbM n lo hi l->∀ x∈l,∃ a b,In n x.e a b
 |_,_,[],_=>by simp
 |lo,hi,y::l,h=>by
  obtain ⟨_,m1,m2,_,h1,h2⟩:=h;intro x hx;rcases zyk.1 hx with rfl|hx
  ·exact ⟨_,_,h1⟩
  ·exact ja9 h2 x hx
theorem zfn:∀ (n:Nat) (t:List UInt8) (p:Nat),(zfR n t p).length<=t.length+1
 |0,t,p=>by simp[zfR]
 |n+1,t,p=>by
  have h1:=jaF zdr t;generalize hu:t.drop (t.takeWhile zdr).length=u at h1;have h2:=zeJ u;have hd:zfR (n+1) t p=⟨(first u).1,(first u).2,p+(t.takeWhile zdr).length⟩::(if (first u).1<=1 then [] else zfR n (u.drop (first u).2.length) (p+(t.takeWhile zdr).length+(first u).2.length)):=by
   rw[<-hu];rfl
  rw[hd];by_cases hx:(first u).1<=1
  ·rw[if_pos hx];simp
  ·rw[if_neg hx];have h3:=jbJ _ hx;have ih:=zfn n (u.drop (first u).2.length) (p+(t.takeWhile zdr).length+(first u).2.length);rw[zyp]at ih;simp only[zx3];omega
theorem ja6:∀ {l:List zbq},zbj l=true->zdn∈zaq l
 |[],h=>by simp[zbj]at h
 |x::l,h=>by
  rw[zbj]at h;split at h
  ·next hx=>simp at hx;simp[zaq,hx]
  ·have:=ja6 h;simp[zaq]at this ⊢;exact .inr this
structure jd6 (D:Nat) (l:List zbq):Prop where
 dp:∀ f∈l,Cp.Dp D f.e
 par:∀ f∈l,∀ t∈f.params,t.s≠[]
 nm:∀ f∈l,∀ x∈Cp.free D f.e,x≠[]/\(x∈texts f.params\/x∈zaq l)
 sum:(l.map fun f=>Cp.wt D f.e+f.params.length+1).sum<=1300
 main:zdn∈zaq l
theorem zhF{l:List zbq}{f:zbq}(g:zbq->Nat)(h:f∈l):g f<=(l.map g).sum:=by
 induction l with
 |nil=>simp at h
 |cons y l ih=>
  rw[zx6,zx9];rcases zyk.1 h with rfl|h
  ·omega
  ·have:=ih h;omega
theorem jd6.each{D:Nat}{l:List zbq}(h:jd6 D l){f:zbq}(hf:f∈l):Cp.wt D f.e+f.params.length+1<=1300:=zxN (zhF (fun f=>Cp.wt D f.e+f.params.length+1) hf) h.sum
end Th
theorem zqq{T:List Th.Tok}(h:Good T):Th.TK2 ⟨T,none⟩:=by
 intro t ht;refine ⟨fun hk=>?_,fun hk=>((h.text t ht).2.1) (by omega)⟩;obtain ⟨h1,h2⟩:=h.num t ht hk;have h3:=zta t.s 0 h2;have h4:10 ^ t.s.length<=10 ^ 9:=Nat.pow_le_pow_right (by decide) h1;show t.s.foldl (fun a c=>10*a+(c.toNat-48)) 0<=999999999;omega
variable {s:ByteArray}
variable {q:List Th.zbq × Th.St}
variable {N:Nat}
theorem zlV(hs:s.size<=600)(hp:Plain s q N)(h0:(answer s.size q N).1=0):Th.jd6 1300 q.1:=by
 have hb:q.2.bad=none:=by
  unfold answer at h0;cases hb:q.2.bad with
  |none=>rfl
  |some p=>rw[hb]at h0;simp at h0
 obtain ⟨n,k,_,_,hq⟩:=hp.lines;obtain ⟨lo,hi,hin,_⟩:=hp.within hb;have hl:=Th.zfn (s.size+1) s.data.toList 0;have hz:s.data.toList.length=s.size:=by rw[zy9];rfl
 rw[hz]at hl;have hlt:(zaB s).length<=s.size+1:=hl;obtain ⟨m,w1,w2⟩:=Th.zgg k [] _ ⟨zaB s,none⟩ q hq (zqq hp.zcr) (fun _=>⟨0,by simp,0,by simp,by simp⟩) hb;simp only at w2;have hwn:Th.zbH N (Th.zaq q.1) [] q.1=[]/\Th.zbj q.1=true:=by
  unfold answer at h0;rw[hb]at h0;simp only at h0;cases hw:Th.zbH N (Th.zaq q.1) [] q.1 with
  |cons p r=>rw[hw]at h0;simp at h0
  |nil=>
   rw[hw]at h0;simp only[List.head?_nil]at h0;refine ⟨rfl,?_⟩;by_cases hm:Th.zbj q.1=true
   ·exact hm
   ·rw[if_neg hm]at h0;simp at h0
 have hwt:∀ f∈q.1,Cp.wt m f.e<=1300:=fun f hf=>by have:=Th.zhF (fun f=>Cp.wt m f.e+f.params.length+1) hf;omega
 have hD:∀ f∈q.1,Cp.Dp 1300 f.e:=fun f hf=>(Th.zwR (w1 f hf).1).le (hwt f hf)
 have hwe:∀ f∈q.1,Cp.wt 1300 f.e=Cp.wt m f.e:=fun f hf=>by rw[<-Cp.zkD (hD f hf) (zy7 1300 m),Cp.zkD (w1 f hf).1 (zyV m 1300)]
 refine ⟨hD,fun f hf=>(w1 f hf).2,fun f hf x hx=>⟨Th.jdA _ _ (hD f hf) x hx,?_⟩,?_,Th.ja6 hwn.2⟩
 ·obtain ⟨a,b,hI⟩:=Th.ja9 hin f hf;have:=Th.zb8 N f.e a b _ hI (hD f hf) (Th.jbS hwn.1 f hf) x hx;rcases zyc.1 this with h|h
  ·exact .inr h
  ·exact .inl h
 ·rw[zza (fun f hf=>by rw[hwe f hf])];omega
end Go.Proofs.YtgahgkddaljmkaaGreatDoor
namespace Go.Proofs.YtgahgkddaljmkaaGreatDoor
open Go.RowKit Go.Shelf
attribute [local go_sem ↓] Go.wp_at_zero Go.wp_at_succ
theorem jaK{P:Program}{fn:Func}{p u:Tmp}{ty:TypeId}(h:fn.results=#[.cell p ty,.tmp u])(tmps:Array Value)(w:World)(g:Nat)(t:TypeId)(cs:Array Value)(fr:Nat × Nat)(d:TypeDesc)(hp:tmps.getD p undef=.pointer (some ⟨g,0,none⟩))(hg:w.heap[g]?=some (.cells cs t fr))(hu:P.underlying ty=some d)(hd:(match d with|.struct _|.array _ _=>true|_=>false)=true)(hi:(P.info? ty).map (·.size)=some cs.size):
  (results fn tmps).run P w=.ok (.tuple #[.agg cs,tmps.getD u undef]) w:=by
 have hp':tmps[p]?.getD undef=.pointer (some ⟨g,0,none⟩):=by simpa using hp
 simp[results,h,hp',asAddr,run_loadVar_row w g t ty cs fr d hg hu hd hi]
theorem jdX{S:Nat->Prop}{w:World}:∀ {D m:Nat} {v:Value} {e:Th.Ex},Rep S w m v e->Cp.Dp D e->Rep S w D v e
 |0,_,_,_,_,h=>h.elim
 |D+1,0,_,_,h,_=>h.elim
 |D+1,m+1,v,e,h,hd=>by
  have ih:∀ {v:Value} {k:Th.Ex},k∈e.kids->Rep S w m v k->Rep S w D v k:=fun hk hr=>jdX hr (hd.2 _ hk)
  rcases h with h|h|h|⟨hk,sv,bv,b,h1,h2,h3,h4⟩|⟨hk,v1,v2,e1,e2,h1,h2,h3,h4⟩|⟨hk,v1,v2,e1,e2,h1,h2,h3,h4⟩|⟨hk,sv,bv,b,parts,pvs,h1,h2,h3,h4,h5,h6,h7⟩|⟨hk,cv,sv,b,bodies,nvs,bvs,h1,h2,h3,h4,h5,h6,h7,h8,h9⟩
  ·exact .inl h
  ·exact .inr (.inl h)
  ·exact .inr (.inr (.inl h))
  ·exact .inr (.inr (.inr (.inl ⟨hk,sv,bv,b,h1,h2,h3,ih (by simp[h1]) h4⟩)))
  ·exact .inr (.inr (.inr (.inr (.inl ⟨hk,v1,v2,e1,e2,h1,h2,ih (by simp[h1]) h3,ih (by simp[h1]) h4⟩))))
  ·exact .inr (.inr (.inr (.inr (.inr (.inl ⟨hk,v1,v2,e1,e2,h1,h2,ih (by simp[h1]) h3,ih (by simp[h1]) h4⟩)))))
  ·exact .inr (.inr (.inr (.inr (.inr (.inr (.inl ⟨hk,sv,bv,b,parts,pvs,h1,h2,h3,h4,h5,fun i pv p a c=>ih (by simp[h1,zxX c]) (h6 i pv p a c),ih (by simp[h1]) h7⟩))))))
  ·exact .inr (.inr (.inr (.inr (.inr (.inr (.inr ⟨hk,cv,sv,b,bodies,nvs,bvs,h1,h2,h3,h4,h5,h6,h7,fun i bv p a c=>ih (by simp[h1,zxX c]) (h8 i bv p a c),ih (by simp[h1]) h9⟩))))))
theorem jcJ{S:Nat->Prop}{w:World}{pv:Value}{l:List Th.zbq}(hr:zjR S w pv l)(ho:Th.jd6 1300 l):
  Calls Tryz.prog 35 #[pv] w fun e w'=>∃ rv,e=.returned (.agg #[rv,.int .i64 l.length,.int .i64 ((Th.zaq l).idxOf Th.zdn:Nat)])/\zqw w' rv (Cp.program 1300 l)/\Fr (fun _=>False) w w':=by
 obtain ⟨nvs,bvs,m,h1,h2,hrow,hlr⟩:=hr;have hlen:l.length<=1300:=by
  have h0:∀ (l:List Th.zbq),l.length<=(l.map fun f=>Cp.wt 1300 f.e+f.params.length+1).sum:=by
   intro l
   induction l with
   |nil=>simp
   |cons x l ih=>rw[zx6,zx9,zx3];omega
  have:=h0 l;have:=ho.sum;omega
 have hsum:l.length+(l.map fun f=>8*Cp.wt 1300 f.e).sum<=1000000:=by
  have h0:∀ (l:List Th.zbq),(l.map fun f=>8*Cp.wt 1300 f.e).sum<=8*(l.map fun f=>Cp.wt 1300 f.e+f.params.length+1).sum:=by
   intro l
   induction l with
   |nil=>simp
   |cons x l ih=>rw[zx6,zx9,zx6,zx9];omega
  have:=h0 l;have:=ho.sum;omega
 have hfit:∀ f∈l,f.params.length<=5000/\∀ bl:List (Nat × List Ins),bl.length+8*Cp.wt 1300 f.e<=1000000->Fit 1300 1300 (Th.zaq l) ⟨bl,(Th.texts f.params).reverse,[]⟩ f.e:=fun f hf=>by
  have he:=ho.each hf;have hp:(1300+8)*Cp.wt 1300 f.e<=(1300+8)*1300:=zyl _ (by omega);refine ⟨by omega,fun bl hbl=>⟨ho.dp f hf,by omega,by omega,by simp[Th.zaq];omega,fun x hx=>?_,by simp;omega,by simp[Th.texts];omega,hbl⟩⟩;obtain ⟨a,b⟩:=ho.nm f hf x hx;refine ⟨a,?_⟩;rcases b with b|b
  ·exact .inl (by simpa using b)
  ·exact .inr b
 have hcost:∀ f∈l,∀ q:Cp.Bs,(Cp.work (Cp.free 1300) (Th.zaq l) 1300 f.e 0 q).blocks.length<=q.blocks.length+8*Cp.wt 1300 f.e/\q.blocks.length<=(Cp.work (Cp.free 1300) (Th.zaq l) 1300 f.e 0 q).blocks.length:=fun f hf q=>by
  have he:=ho.each hf;have h3:=(Cp.zaH 1300 1300 (Th.zaq l) 1300 f.e 0 q (ho.dp f hf) (by omega)).2.2;obtain ⟨⟨⟨bl,e1,_⟩,_⟩,_⟩:=Cp.zbx (M:=1300) 1300 (Th.zaq l) (by omega) 1300 f.e 0 q (ho.dp f hf) (ho.dp f hf) (by omega);refine ⟨by omega,?_⟩;rw[e1];simp
 have hlr2:zdx S w 1300 l nvs bvs:=fun i x nv bv a b c=>⟨(hlr i x nv bv a b c).1,jdX (hlr i x nv bv a b c).2 (ho.dp x (zxX a))⟩
 have hg:=Cp.zod (M:=1300) (N:=1300) (l:=l) (by omega) (fun f hf=>⟨ho.dp f hf,by have:=ho.each hf;omega,by have:=ho.each hf;omega⟩);have hpos:0<l.length:=by have:=List.length_pos_of_mem ho.main;simpa [Th.zaq] using this
 refine (zof (znV 1300 (by omega) 1300 (zxJ _)) h1 h2 hrow hlr2 rfl ho.main hfit hcost hsum).mono ?_;rintro e w' ⟨Z,cb,rv,rfl,hcs,hfr⟩;exact ⟨rv,rfl,zsE hcs hg.1 (by omega),hfr⟩
variable {s:ByteArray}
theorem zol(h:600<s.size)(heap fuel:Int)(w:World):
  Calls Tryz.prog 25 #[.string s,.int .i64 heap,.int .i64 fuel] w fun e w'=>e=.returned (.tuple #[ziH 0 0 0 0,.int .i64 1])/\Fr (fun _=>False) w w':=by
 have f0:=zam w (.cells #[.int .i64 0,.int .i64 0,.int .i64 0,.int .i64 0] 35);have CON:=zab (znb h (w.alloc (.cells #[.int .i64 0,.int .i64 0,.int .i64 0,.int .i64 0] 35)));have HB:=zab (Blk.new w [.int .i64 0,.int .i64 0,.int .i64 0,.int .i64 0] 35);have F0:=zab f0;clear f0;go_enter Tryz.func25,Tryz.ntmps25
 go_wp2_with fail
 refine CON.o.mono ?_;rintro e w1 ⟨rfl,rfl⟩;go_wp2_with fail
 refine bodyPost_ret (jaK rfl _ _ w.heap.size _ _ _ _ rfl HB.o Tryz.underlying35 rfl (by kernel_rfl)) rfl ?_;exact ⟨rfl,Fr.below F0.o⟩
variable {q:List Th.zbq × Th.St}
variable {N:Nat}
theorem zsy(hs:s.size<=600)(hp:Plain s q N)(h0:(answer s.size q N).1≠0)(heap fuel:Int)(w:World):
  Calls Tryz.prog 25 #[.string s,.int .i64 heap,.int .i64 fuel] w fun e w'=>e=.returned (.tuple #[ziH 0 0 0 0,.int .i64 (answer s.size q N).1])/\Fr (fun _=>False) w w':=by
 have f0:=zam w (.cells #[.int .i64 0,.int .i64 0,.int .i64 0,.int .i64 0] 35);have CON:=zab (zmc hs hp (w.alloc (.cells #[.int .i64 0,.int .i64 0,.int .i64 0,.int .i64 0] 35)));have HB:=zab (Blk.new w [.int .i64 0,.int .i64 0,.int .i64 0,.int .i64 0] 35);have F0:=zab f0;clear f0 hp hs;obtain ⟨a,ha⟩:∃ a,answer s.size q N=a:=⟨_,rfl⟩;unfold zlZ at CON;rw[ha]at CON h0 ⊢;obtain ⟨a1,a2⟩:=a;have hne:((a1:Int) == 0)=false:=by rw[beq_eq_false_iff_ne];simp only at h0;omega
 clear ha h0;go_enter Tryz.func25,Tryz.ntmps25
 go_wp2_with fail
 refine CON.o.mono ?_;rintro e w1 ⟨hb,pv,rfl,⟨a,k,c,rfl⟩,_⟩;have hB1:Blk w1 w.heap.size [.int .i64 0,.int .i64 0,.int .i64 0,.int .i64 0] 35:=Fr.blk (K:=fun _=>False) HB.o (Fr.below hb) (by simp);have p0:=Blk.cell hB1 0;have p1:=Blk.cell hB1 1;have p2:=Blk.cell hB1 2;have p3:=Blk.cell hB1 3;have z0:=Blk.frozen hB1 0;have z1:=Blk.frozen hB1 1;have z2:=Blk.frozen hB1 2;have z3:=Blk.frozen hB1 3;simp at p0 p1 p2 p3;have HB1:=zab hB1;have Hb:=zab (F0.o.trans (hb.mono (by simp)));clear hb CON hB1;go_wp2_with fail
 refine bodyPost_ret (jaK rfl _ _ w.heap.size _ _ _ _ rfl (Blk.set (Blk.set (Blk.set (Blk.set HB1.o 0 _) 1 _) 2 _) 3 _) Tryz.underlying35 rfl (by kernel_rfl)) rfl ?_;exact ⟨rfl,((((Fr.below Hb.o).set _ _ (.inr (zxJ _))).set _ _ (.inr (zxJ _))).set _ _ (.inr (zxJ _))).set _ _ (.inr (zxJ _))⟩
def zcm (x:Int) (m:Nat):Nat:=(min (max x 0) (m:Int)).toNat
theorem zuV(hs:s.size<=600)(hp:Plain s q N)(h0:(answer s.size q N).1=0)(heap fuel:Int){g:Nat}{k n t a:Int}(hr:∀ pv,runM pv (Cp.program 1300 q.1) q.1.length ((Th.zaq q.1).idxOf Th.zdn) (zcm heap 262144) (zcm fuel 4000000) g=some (k,n,t,a))(w:World):
  Calls Tryz.prog 25 #[.string s,.int .i64 heap,.int .i64 fuel] w fun e w'=>e=.returned (.tuple #[ziH k n t a,.int .i64 0])/\Fr (fun _=>False) w w':=by
 have hok:=zlV hs hp h0;have hlen:q.1.length<=1000000:=by
  have h0:∀ (l:List Th.zbq),l.length<=(l.map fun f=>Cp.wt 1300 f.e+f.params.length+1).sum:=by
   intro l
   induction l with
   |nil=>simp
   |cons x l ih=>rw[zx6,zx9,zx3];omega
  have:=h0 q.1;have:=hok.sum;omega
 have hH:((zcm heap 262144:Nat):Int)=min (max heap 0) 262144:=by unfold zcm;omega
 have hF:((zcm fuel 4000000:Nat):Int)=min (max fuel 0) 4000000:=by unfold zcm;omega
 have f0:Fr (fun _=>False) w (w.alloc (.cells #[.int .i64 0,.int .i64 0,.int .i64 0,.int .i64 0] 35)):=(Fr.refl _ _).alloc _;have CON:=zab (zmc hs hp (w.alloc (.cells #[.int .i64 0,.int .i64 0,.int .i64 0,.int .i64 0] 35)));have HB:=zab (Blk.new w [.int .i64 0,.int .i64 0,.int .i64 0,.int .i64 0] 35);have F0:=zab f0;have CC:=zab (fun (w1:World) (pv:Value) (hp:zjR (zat (w.alloc (.cells #[.int .i64 0,.int .i64 0,.int .i64 0,.int .i64 0] 35))) w1 pv q.1)=>jcJ hp hok);have CR:=zab (fun (w2:World) (rv:Value) (hc:zqw w2 rv (Cp.program 1300 q.1))=>zwH (g:=g) hc hlen (show zcm heap 262144<=1000000 by unfold zcm;omega) (show zcm fuel 4000000<=1000000000 by unfold zcm;omega) (hr rv));clear f0 hp hs hr hok;obtain ⟨a',ha⟩:∃ a,answer s.size q N=a:=⟨_,rfl⟩;unfold zlZ at CON;rw[ha]at CON h0;obtain ⟨a1,a2⟩:=a';simp only at h0;subst h0;rw[hH,hF]at CR;clear ha hH hF;go_enter Tryz.func25,Tryz.ntmps25
 go_wp2_with fail
 refine CON.o.mono ?_;rintro e w1 ⟨hb,pv,rfl,⟨pa,pk,pc,rfl⟩,hrep⟩;have C1:=zab (CC.o w1 _ (hrep trivial));have F1:=zab (F0.o.trans (Fr.below hb));have B1:=zab (Fr.blk (K:=fun _=>False) HB.o (Fr.below hb) (by simp));clear hb hrep CON CC;go_wp2_with fail
 refine C1.o.mono ?_;rintro e w2 ⟨rv,rfl,hc,f2⟩;have C2:=zab (CR.o w2 rv hc);have F2:=zab (F1.o.trans f2);have B2:=zab (Fr.blk B1.o f2 (by simp));clear hc f2 C1 CR;go_wp2_with fail
 refine C2.o.mono ?_;rintro e w3 ⟨rfl,f3⟩;have hB3:=Fr.blk B2.o f3 (by simp);have p0:=Blk.cell hB3 0;have p1:=Blk.cell hB3 1;have p2:=Blk.cell hB3 2;have p3:=Blk.cell hB3 3;have z0:=Blk.frozen hB3 0;have z1:=Blk.frozen hB3 1;have z2:=Blk.frozen hB3 2;have z3:=Blk.frozen hB3 3;simp at p0 p1 p2 p3;have HB3:=zab hB3;have F3:=zab (F2.o.trans f3);unfold ziH;clear hB3 f3 C2;go_wp2_with fail
 refine bodyPost_ret (jaK rfl _ _ w.heap.size _ _ _ _ rfl (Blk.set (Blk.set (Blk.set (Blk.set HB3.o 0 _) 1 _) 2 _) 3 _) Tryz.underlying35 rfl (by kernel_rfl)) rfl ?_;exact ⟨rfl,(((F3.o.set _ _ (.inr (zxJ _))).set _ _ (.inr (zxJ _))).set _ _ (.inr (zxJ _))).set _ _ (.inr (zxJ _))⟩
end Go.Proofs.YtgahgkddaljmkaaGreatDoor
namespace Go.Proofs.YtgahgkddaljmkaaGreatDoor
namespace Ab
inductive Nd where
 |num (v:Int)
 |data (t:Nat) (fs:List Nat)
 |clo (b:Nat) (fs:List Nat)
 |busy
 |fwd (a:Nat)
inductive Wd where
 |ad (a:Nat)
 |mk (k b:Nat)
def sz:Nd->Nat
 |.num _=>2
 |.data _ fs=>1+fs.length
 |.clo _ fs=>1+fs.length
 |.busy=>1
 |.fwd _=>1
def zdm:Nd->List Nat
 |.data _ fs=>fs
 |.clo _ fs=>fs
 |_=>[]
def hdr:Nd->Int
 |.num _=>0
 |.data t fs=>Hd 1 t fs.length
 |.clo b fs=>Hd 2 b fs.length
 |.busy=>Hd 3 0 0
 |.fwd _=>0
def zaU:Nd->Bool
 |.fwd _=>true
 |_=>false
def jcG:Nd->Prop
 |.data t fs=>t<=1000000000/\fs.length<4096
 |.clo b fs=>b<=1000000000/\fs.length<4096
 |_=>True
variable {nd:Nd}
theorem jaI(h:jcG nd):0<=hdr nd/\hdr nd<9223372036854775808:=by
 cases nd <;> simp only[hdr,jcG]at * <;> (try unfold Hd) <;> omega
theorem jbU(hf:zaU nd=false):hdr nd%16≠4/\hdr nd%16≠5:=by
 cases nd <;> simp only[hdr] <;> first|(constructor <;> decide)|(unfold Hd;omega)|simp[zaU]at hf
theorem jbX(h:jcG nd)(hf:zaU nd=false):behind (hdr nd)+1=sz nd:=by
 cases nd with
 |num v=>simp[behind,hdr,sz]
 |data t fs=>
  simp only[jcG]at h;unfold behind;rw[if_neg (by simp only[hdr];rw[zbz (by omega)];omega)];simp only[hdr,sz];rw[zeb (by omega) h.2];omega
 |clo t fs=>
  simp only[jcG]at h;unfold behind;rw[if_neg (by simp only[hdr];rw[zbz (by omega)];omega)];simp only[hdr,sz];rw[zeb (by omega) h.2];omega
 |busy=>simp[behind,hdr,sz,Hd]
 |fwd a=>simp[zaU]at hf
theorem jc3(h:jcG nd)(hf:zaU nd=false):(hdr nd/16%4096).toNat=(zdm nd).length:=by
 cases nd with
 |num v=>simp[hdr,zdm]
 |data t fs=>
  simp only[jcG]at h;simp only[hdr,zdm];rw[zeb (by omega) h.2];omega
 |clo t fs=>
  simp only[jcG]at h;simp only[hdr,zdm];rw[zeb (by omega) h.2];omega
 |busy=>simp[hdr,zdm,Hd]
 |fwd a=>simp[zaU]at hf
theorem jaP(nd:Nd):(zdm nd).length+1<=sz nd:=by cases nd <;> simp[zdm,sz] <;> omega
theorem ja7(nd:Nd):1<=sz nd:=by cases nd <;> simp[sz]
def Rf (φ:Nat->Option Nat) (h:List Nd) (x:Int) (a:Nat):Prop:=∃ p:Nat,x=(p:Int)/\(φ a=some p\/∃ b,h[a]?=some (.fwd b)/\φ b=some p)
def RW (φ:Nat->Option Nat) (h:List Nd) (x:Int):Wd->Prop
 |.ad a=>Rf φ h x a
 |.mk k b=>x=Mk k b
def AtC (ws:List Int) (ρ:Int->Nat->Prop) (p:Nat) (nd:Nd):Prop:=ws[p]?=some (hdr nd)/\(∀ v,nd=.num v->ws[p+1]?=some v)/\∀ (i:Nat) (f:Nat),(zdm nd)[i]?=some f->∃ x,ws[p+1+i]?=some x/\ρ x f
def At (ws:List Int) (φ:Nat->Option Nat) (h:List Nd) (p:Nat) (nd:Nd):Prop:=(∃ b p',nd=.fwd b/\φ b=some p'/\ws[p]?=some (Hd 4 p' 0))\/(zaU nd=false/\AtC ws (Rf φ h) p nd)
structure Rel (s:Sto) (fc:List Int) (h:List Nd) (st:List Wd) (fns:List Nat) (φ:Nat->Option Nat):Prop where
 low:s.low=0\/s.low=s.half
 len:2*s.half<=s.ws.length
 wl:s.ws.length<=1000000
 lf:s.low<=s.free
 ft:s.free<=s.top
 tp:s.top+st.length=s.low+s.half
 stk:∀ (i:Nat) (w:Wd),st[i]?=some w->∃ x,s.ws[s.low+s.half-1-i]?=some x/\RW φ h x w
 fl:fc.length=fns.length
 fn:∀ (i:Nat) (a:Nat),fns[i]?=some a->∃ x,fc[i]?=some x/\Rf φ h x a
 nod:∀ a p,φ a=some p->∃ nd,h[a]?=some nd/\s.low<=p/\p+sz nd<=s.free/\At s.ws φ h p nd
 dis:∀ a a' p p' nd nd',φ a=some p->φ a'=some p'->h[a]?=some nd->h[a']?=some nd'->a≠a'->p+sz nd<=p'\/p'+sz nd'<=p
 ok:∀ (a:Nat) (nd:Nd),h[a]?=some nd->jcG nd
 fw:∀ (a b:Nat),h[a]?=some (.fwd b)->∃ nd,h[b]?=some nd/\zaU nd=false
def can (h:List Nd) (a:Nat):Nat:=
 match h[a]? with
 |some (.fwd b)=>b
 |_=>a
theorem jaC{α:Type}(L:List α)(off:Nat)(cs:List α)(i:Nat)(h:off+cs.length<=L.length):(Go.splice L off cs)[i]?=if i<off then L[i]? else if i<off+cs.length then cs[i-off]? else L[i]?:=by
 unfold Go.splice;rw[zyd,zyb,zyO (by omega)];split
 ·next hi=>rw[zyq,if_pos hi]
 ·next hi=>
  rw[zyd];split
  ·next h2=>rw[if_pos (by omega)]
  ·next h2=>
   rw[if_neg (by omega),zyr];congr 1;omega
theorem jbK:∀ (n:Nat) (l:List Nat),l.Nodup->(∀ x∈l,x<n)->l.length<=n
 |0,l,_,h=>by
  cases l with
  |nil=>simp
  |cons x l=>have:=h x (by simp);omega
 |n+1,l,hn,h=>by
  by_cases hm:n∈l
  ·have h1:=jbK n (l.erase n) (hn.erase n) (fun x hx=>by
    have h2:=List.mem_of_mem_erase hx;have h3:=h x h2;have h4:x≠n:=fun e=>by
     subst e;exact (List.Nodup.not_mem_erase hn) hx
    omega)
   rw[List.length_erase_of_mem hm]at h1;omega
  ·have h1:=jbK n l hn (fun x hx=>by
    have h3:=h x hx;have h4:x≠n:=fun e=>hm (e ▸ hx)
    omega)
   omega
theorem jdC(lo hi:Nat)(l:List (Nat × Nat))(h1:∀ x∈l,lo<=x.1/\x.1+x.2<=hi)(h2:l.Pairwise fun x y=>x.1+x.2<=y.1\/y.1+y.2<=x.1):(l.map Prod.snd).sum<=hi-lo:=by
 have hl:∀ l:List (Nat × Nat),(l.flatMap fun x=>(List.range x.2).map fun j=>x.1-lo+j).length=(l.map Prod.snd).sum:=by
  intro l
  induction l with
  |nil=>rfl
  |cons x l ih=>simp[List.flatMap_cons,ih]
 have hmem:∀ (l:List (Nat × Nat)) (y:Nat),y∈(l.flatMap fun x=>(List.range x.2).map fun j=>x.1-lo+j)->∃ x∈l,x.1-lo<=y/\y<x.1-lo+x.2:=by
  intro l y hy;obtain ⟨x,hx,hy⟩:=List.mem_flatMap.1 hy;obtain ⟨j,hj,rfl⟩:=zyW.1 hy;have:=List.mem_range.1 hj;exact ⟨x,hx,by omega,by omega⟩
 have hnd:∀ l:List (Nat × Nat),(∀ x∈l,lo<=x.1)->(l.Pairwise fun x y=>x.1+x.2<=y.1\/y.1+y.2<=x.1)->(l.flatMap fun x=>(List.range x.2).map fun j=>x.1-lo+j).Nodup:=by
  intro l hlo hp
  induction l with
  |nil=>simp
  |cons x l ih=>
   rw[List.flatMap_cons,List.nodup_append];rw[List.pairwise_cons]at hp;refine ⟨?_,ih (fun y hy=>hlo y (by simp[hy])) hp.2,?_⟩
   ·rw[List.Nodup,List.pairwise_map];exact List.Pairwise.imp (fun h=>by omega) List.nodup_range
   ·intro a ha b hb;obtain ⟨j,hj,rfl⟩:=zyW.1 ha;have:=List.mem_range.1 hj;obtain ⟨y,hy,y1,y2⟩:=hmem l b hb;have h3:=hp.1 y hy;have h4:=hlo x (by simp);have h5:=hlo y (by simp[hy]);omega
 rw[<-hl];refine jbK _ _ (hnd l (fun x hx=>(h1 x hx).1) h2) ?_;intro y hy;obtain ⟨x,hx,y1,y2⟩:=hmem l y hy;have:=h1 x hx;omega
end Ab
end Go.Proofs.YtgahgkddaljmkaaGreatDoor
