/- RsH .. RsI -/
import Derived.Test.YtgahgkddaljmkaaGreatDoorV21
import Derived.Test.YtgahgkddaljmkaaGreatDoorV17
set_option maxRecDepth 100000
set_option maxHeartbeats 4000000
namespace Go.Proofs.YtgahgkddaljmkaaGreatDoor
open Tryz Th Cp
section
namespace Th
variable {n m:Nat} {e a b:Ex}
theorem zL6:∀(n:Nat)(t:List UInt8)(p q:Nat),(ME n t p).map zT=(ME n t q).map zT
 |0,_,_,_=>rfl
 |n+1,t,p,q=>by
  rw[ME,ME];simp only[Ki,zT];split
  .rfl
  .rw[zL6 n]
def lz (n:Nat) (t:List UInt8):List Tok:=(ME n t 0).map zT
variable {s u:List UInt8}
theorem WA{k:Nat}(hb:(s++u).takeWhile Mh=[])(hf:first (s++u)=(k,s))(hk:2<=k:=by omega):lz (m+1) (s++u)=⟨k,s,0⟩::lz m u:=by unfold lz;rw[ME,hb,My,Sb,hf,pL (by show¬k<=1;omega),List.drop_left];simp only[Ki,zT];rw[zL6 _ _ _ 0]
variable {c:UInt8}
theorem NS(hc:Mh c=true)(hm:1<=m)(u:List UInt8):lz m (c::u)=lz m u:=by
 obtain⟨m,rfl⟩:∃k,m=k+1:=⟨m-1,by omega⟩;unfold lz;rw[ME,ME];have hb:(c::u:List UInt8).takeWhile Mh=c::u.takeWhile Mh:=Ik hc;rw[hb];simp only[Kh,List.drop_succ_cons,Ki,zT];split
 .rfl
 .rw[zL6 _ _ _ (0+(u.takeWhile Mh).length+(first (u.drop (u.takeWhile Mh).length)).2.length)]
theorem zML{P:UInt8->Bool}(h:∀x∈s,P x=true)(hc:P c=false):(s++c::u).takeWhile P=s:=by rw[List.takeWhile_append_of_pos h,Ii (by rw[hc];simp),Rq]
theorem zNg(h:isLet c=true):Mh c=false:=by unfold isLet at h;unfold Mh;simp only[OR,tY]at h;simp only[Im,kJ,ne_eq];constructor<;>intro e<;>subst e<;>simp at h
theorem zME(h:Mg c=true):Mh c=false/\isLet c=false:=by unfold Mg at h;unfold Mh isLet;simp only[OR,tY]at h;refine⟨?_,by simp;omega⟩;simp only[Im,kJ,ne_eq];constructor<;>intro e<;>subst e<;>simp at h
theorem WC(h:Word s)(hc:MY c=false:=by decide):lz (m+1) (s++c::u)=⟨2,s,0⟩::lz m (c::u):=by
 obtain⟨x,r,rfl,h1,h2,h3,_⟩:=h;refine WA (by rw[MP,Ii (by rw[zNg h1];simp)]) ?_ (qP _);have:first (x::r++c::u)=if isLet x then word ((x::r++c::u).takeWhile MY)else if Mg x then Pj ((x::r++c::u).takeWhile Mg)else if Ow (x::r++c::u)=0 then(1,[])else(4,(x::r++c::u).take (Ow (x::r++c::u))):=rfl
 rw[this,nB h1,zML h2 hc];unfold word;rw[h3];rfl
theorem zNm(h:MY c=false):Mg c=false:=by unfold MY at h;simp only[Im]at h;exact h.2
theorem zNe(v:Nat):Lib.decDigits v≠[]/\∀c∈Lib.decDigits v,Mg c=true:=by
 induction v using Nat.strongRecOn with
 |_ v ih=>
  by_cases h:v<10
  .rw[Lib.decDigits_one h];refine⟨by simp,λc hc=>?_⟩;rw[NA.1 hc];simp[Mg];omega
  .rw[Lib.decDigits,dif_neg h];refine⟨by simp,λc hc=>?_⟩;rcases Ni.1 hc with hc|hc
   .exact(ih (v/10) (by omega)).2 c hc
   .rw[NA.1 hc];simp[Mg];omega
theorem X7{v:Nat}(h:v<=999999999)(hc:MY c=false:=by decide):lz (m+1) (Lib.decDigits v++c::u)=⟨3,Lib.decDigits v,0⟩::lz m (c::u):=by
 obtain⟨h1,h2⟩:=zNe v;have h3:=XS 8 v (by omega);generalize Lib.decDigits v=s at h1 h2 h3;obtain⟨x,r,rfl⟩:∃x r,s=x::r:=by cases s with|nil=>exact absurd rfl h1|cons x r=>exact⟨x,r,rfl⟩
 have hx:=h2 x (by simp);refine WA (by rw[MP,Ii (by rw[(zME hx).1];simp)]) ?_;have:first (x::r++c::u)=if isLet x then word ((x::r++c::u).takeWhile MY)else if Mg x then Pj ((x::r++c::u).takeWhile Mg)else if Ow (x::r++c::u)=0 then(1,[])else(4,(x::r++c::u).take (Ow (x::r++c::u))):=rfl
 rw[this,(zME hx).2,hx,zML h2 (zNm hc)];simp only[Ps,nt,kP];unfold Pj;rw[qj]
theorem Uq(h:s∈[Ol,Na,Mx,OK,Nt])(u:List UInt8):lz (m+1) (s++32::u)=sg s::lz m (32::u):=by simp only[Mz,PV,qT]at h;rcases h with rfl|rfl|rfl|rfl|rfl<;>exact WA (by kernel_rfl) (by kernel_rfl)
theorem QJ(h:c∈[59,40,41,123,125,44,60,62,46,92])(u:List UInt8):lz (m+1) (c::u)=sg [c]::lz m u:=by simp only[Mz,PV,qT]at h;rcases h with rfl|rfl|rfl|rfl|rfl|rfl|rfl|rfl|rfl|rfl<;>exact WA (s:=[_]) (by kernel_rfl) (by kernel_rfl) (by omega)
theorem WH(h:s∈[61]::[45,62]::MM)(u:List UInt8):lz (m+1) (s++32::u)=sg s::lz m (32::u):=by simp only[MM,Mz,PV,qT]at h;rcases h with rfl|rfl|rfl|rfl|rfl|rfl|rfl|rfl<;>exact WA (by kernel_rfl) (by kernel_rfl)
theorem Ww(t:Tok)(l:List Tok):Mj (t::l)=32::(t.s++Mj l):=by
 have:∀(l:List Tok)(s:List UInt8),l.foldl (λs t=>s++([32]++t.s)) s=s++Mj l:=λl=>by
  induction l with
  |nil=>intro s;simp[Mj]
  |cons t l ih=>intro s;unfold Mj;rw[NV,NV,ih,ih];simp
 unfold Mj;rw[NV,this];simp[Mj]
theorem XY:∀(l:List Tok),(∀t∈l,Ot t)->∀(m:Nat){c:UInt8}(u:List UInt8),MY c=false->lz (m+l.length) (Mj l++c::u)=l.map zT++lz m (c::u)
 |[],_,_,_,_,_=>rfl
 |t::l,h,m,c,u,hc=>by
  have ht:=h t (by simp);have ez:(⟨2,t.s,0⟩:Tok)=zT t:=by simp[zT,ht.1]
  rw[Ww,Kh,<-Nat.add_assoc];rw[MP,NS (by decide) (by omega),Np];have:∃x v,Mj l++c::u=x::v/\MY x=false:=by
   cases l with
   |nil=>exact⟨c,u,rfl,hc⟩
   |cons y l=>rw[Ww];exact⟨32,_,rfl,by decide⟩
  obtain⟨x,v,h1,h2⟩:=this;rw[h1,WC ht.2 h2,<-h1,XY l (λx hx=>h x (by simp[hx])) m u hc,ez];rfl
theorem zJt(n:Nat)(x:By)(l:List By):Md n (x::l)=Pa n x++Md n l:=by
 have:∀(l:List By)(s:List UInt8),l.foldl (λs x=>s++Pa n x) s=s++Md n l:=λl=>by
  induction l with
  |nil=>intro s;simp[Md]
  |cons t l ih=>intro s;unfold Md;rw[NV,NV,ih,ih];simp
 unfold Md;rw[NV,this];simp[Md]
def LE (n:Nat) (e:Ex):Prop:=∀(m:Nat)(c:UInt8)(u:List UInt8),MY c=false->lz (m+(tT n e).length) (text n e++c::u)=tT n e++lz m (c::u)
theorem zK5{T:List Tok}(h:∀(m:Nat)(c:UInt8)(u:List UInt8),MY c=false->lz (m+T.length) (s++c::u)=T++lz m (c::u))(m:Nat)(u:List UInt8):lz (m+(sg [40]::(T++[sg [41]])).length) (paren s++u)=sg [40]::(T++[sg [41]])++lz m u:=by
 have e1:paren s++u=40::(s++41::u):=by simp[paren]
 have e2:m+(sg [40]::(T++[sg [41]])).length=m+1+T.length+1:=by simp;omega
 rw[e1,e2,QJ (by decide),h _ _ _ (by decide),QJ (by decide)];simp
theorem XT(h:LE n e)(l m:Nat)(c:UInt8)(u:List UInt8)(hc:MY c=false):lz (m+(wT e l (tT n e)).length) (within e l (text n e)++c::u)=wT e l (tT n e)++lz m (c::u):=by
 unfold within wT;split
 .exact zK5 h m _
 .exact h m c u hc
theorem Ve(x y:List UInt8)(r:List (List UInt8)):MC (x::y::r)=x++59::32::MC (y::r):=by
 have:∀(r:List (List UInt8))(p x:List UInt8),r.foldl (λs y=>s++[59,32]++y) (p++x)=p++r.foldl (λs y=>s++[59,32]++y) x:=λr=>by
  induction r with
  |nil=>intro p x;rfl
  |cons y r ih=>intro p x;rw[NV,NV,<-ih];simp
 show(y::r).foldl _ x=x++59::32::r.foldl _ y;rw[NV,Np,this];have h2:=this r [59,32] y;rw[h2];rfl
theorem zK3:∀(l:List Tok)(ps:List Ex),ps.length=l.length->l≠[]->(∀t∈l,Ot t)->(∀p∈ps,LE n p/\1<=(tT n p).length)->∀(m:Nat)(c:UInt8)(u:List UInt8),MY c=false->lz (m+(bT (tT n) l ps).length) (MC (MS (text n) l ps)++c::u)=bT (tT n) l ps++lz m (c::u)
 |[],_,_,h,_,_,_,_,_,_=>absurd rfl h
 |[t],[e],_,_,ht,hp,m,c,u,hc=>by
  have mi:=ht t (by simp);have ez:(⟨2,t.s,0⟩:Tok)=zT t:=by simp[zT,mi.1]
  obtain⟨h1,h2⟩:=hp e (by simp);have e1:MC (MS (text n) [t] [e])++c::u=t.s++32::([61]++32::(text n e++c::u)):=by simp[MC,MS,Rw]
  have e2:m+(bT (tT n) [t] [e]).length=m+(tT n e).length+1+1:=by simp[bT];omega
  rw[e1,e2,WC mi.2,NS (by decide) (by omega),WH (by decide),NS (by decide) (by omega),h1 m c u hc,ez];rfl
 |[_],[],h,_,_,_,_,_,_,_=>by simp at h
 |[_],_::_::_,h,_,_,_,_,_,_,_=>by simp at h
 |_::_::_,[],h,_,_,_,_,_,_,_=>by simp at h
 |_::_::_,[_],h,_,_,_,_,_,_,_=>by simp at h
 |t::t2::l,e::f::es,hl,_,ht,hp,m,c,u,hc=>by
  have mi:=ht t (by simp);have ez:(⟨2,t.s,0⟩:Tok)=zT t:=by simp[zT,mi.1]
  obtain⟨h1,h2⟩:=hp e (by simp);have ih:=zK3 (t2::l) (f::es) (by simpa using hl) (by simp) (λx h=>ht x (l7 _ h)) (λx h=>hp x (l7 _ h)) m c u hc;obtain⟨T,hT⟩:=ZW (tT n) t2 f l es;have bp:1<=(bT (tT n) (t2::l) (f::es)).length:=by rw[hT];simp
  have eb:bT (tT n) (t::t2::l) (e::f::es)=zT t::sg [61]::(tT n e++sg [59]::bT (tT n) (t2::l) (f::es)):=rfl;have e1:MC (MS (text n) (t::t2::l) (e::f::es))++c::u=t.s++32::([61]++32::(text n e++59::32::(MC (MS (text n) (t2::l) (f::es))++c::u))):=by rw[MS,MS,Ve];simp[Rw]
  have e2:m+(bT (tT n) (t::t2::l) (e::f::es)).length=m+(bT (tT n) (t2::l) (f::es)).length+1+(tT n e).length+1+1:=by rw[eb];simp;omega
  rw[e1,e2,WC mi.2,NS (by decide) (by omega),WH (by decide),NS (by decide) (by omega),h1 _ _ _ (by decide),QJ (by decide),NS (by decide) (by omega),ih,ez,eb];simp
theorem zMG{x:Nat × List Tok}(h:Q8 x){B:List Tok}(hB:1<=B.length){m:Nat}(hb:lz (m+B.length) (s++u)=B++lz m u):lz (m+B.length+1+x.2.length+1+1+1) (PG x s++u)=sg [60]::⟨3,Lib.decDigits x.1,0⟩::sg [62]::(x.2.map zT++sg [45,62]::(B++lz m u)):=by
 have e1:PG x s++u=60::(Lib.decDigits x.1++62::(Mj x.2++32::([45,62]++32::(s++u)))):=by simp[PG]
 have L8:=h.2.1;rw[e1,QJ (by decide),X7 (by omega),QJ (by decide),XY _ h.2.2 _ _ (by decide),NS (by decide) (by omega),WH (by decide),NS (by decide) (by omega),hb]
theorem zLQ:∀(l:List (Nat × List Tok))(ps:List Ex),ps.length=l.length->l≠[]->(∀t∈l,Q8 t)->(∀p∈ps,LE n p/\1<=(tT n p).length)->∀(m:Nat)(c:UInt8)(u:List UInt8),MY c=false->lz (m+(aT (tT n) (ends n) l ps).length) (MC (MT (text n) (ends n) l ps)++c::u)=aT (tT n) (ends n) l ps++lz m (c::u)
 |[],_,_,h,_,_,_,_,_,_=>absurd rfl h
 |[t],[e],_,_,ht,hp,m,c,u,hc=>by
  obtain⟨h1,h2⟩:=hp e (by simp);have e2:m+(aT (tT n) (ends n) [t] [e]).length=m+(tT n e).length+1+t.2.length+1+1+1:=by simp[aT];omega
  have e1:MC (MT (text n) (ends n) [t] [e])=PG t (text n e):=by simp[MC,MT,Pn]
  rw[e2,e1,zMG (ht t (by simp)) h2 (h1 m c u hc)];simp[aT]
 |[_],[],h,_,_,_,_,_,_,_=>by simp at h
 |[_],_::_::_,h,_,_,_,_,_,_,_=>by simp at h
 |_::_::_,[],h,_,_,_,_,_,_,_=>by simp at h
 |_::_::_,[_],h,_,_,_,_,_,_,_=>by simp at h
 |t::t2::l,e::f::es,hl,_,ht,hp,m,c,u,hc=>by
  obtain⟨h1,h2⟩:=hp e (by simp);have ih:=zLQ (t2::l) (f::es) (by simpa using hl) (by simp) (λx h=>ht x (l7 _ h)) (λx h=>hp x (l7 _ h)) m c u hc;obtain⟨T,hT⟩:=zKP (tT n) (ends n) t2 f l es;have bp:1<=(aT (tT n) (ends n) (t2::l) (f::es)).length:=by rw[hT];simp
  have eb:=zLD (n:=n) t t2 l e f es;have e1:MC (MT (text n) (ends n) (t::t2::l) (e::f::es))++c::u=PG t (Pn (ends n e) false (text n e))++59::32::(MC (MT (text n) (ends n) (t2::l) (f::es))++c::u):=by rw[MT,MT,Ve];simp
  have e2:m+(aT (tT n) (ends n) (t::t2::l) (e::f::es)).length=m+(aT (tT n) (ends n) (t2::l) (f::es)).length+1+(dm n e).length+1+t.2.length+1+1+1:=by rw[eb];simp;omega
  have hm:∀(k:Nat)(v:List UInt8),lz (k+(dm n e).length) (Pn (ends n e) false (text n e)++59::v)=dm n e++lz k (59::v):=λk v=>by
   unfold dm Pn;cases ends n e with
   |true=>exact zK5 h1 k _
   |false=>exact h1 k 59 v (by decide)
  have L5:1<=(dm n e).length:=by unfold dm;split;(simp);exact h2
  rw[e1,e2,zMG (ht t (by simp)) L5 (hm _ _),QJ (by decide),NS (by decide) (by omega),ih,eb];simp
end Th
end
section
namespace Cp
open Th
theorem Q6(e:Ex):(zE e).kind=e.kind:=by rw[Pb]
theorem Us(e:Ex):(zE e).tok.s=e.tok.s:=by rw[Pb];rfl
theorem z_n(e:Ex):(zE e).n=e.n:=by rw[Pb]
theorem Yc(e:Ex):(zE e).tag=e.tag:=by rw[Pb]
theorem XW(e:Ex):(zE e).arity=e.arity:=by rw[Pb]
theorem Un(l:List Tok):texts (l.map zT)=texts l:=by simp[texts,zT]
theorem Wz(e:Ex):texts (zE e).names=texts e.names:=by rw[Pb];exact Un _
theorem WG(e:Ex):(zE e).nA=e.nA.map zA:=by rw[Pb]
theorem Rv(e:Ex):(zE e).kids=e.kids.map zE:=by rw[Pb]
theorem ZK{f:Ex->List Nm}(h:∀e,f (zE e)=f e):∀(a:List (Nat × List Tok))(k:List Ex)(l:List Nm),Mu f (a.map zA) (k.map zE) l=Mu f a k l
 |[],_,_=>by simp[Mu]
 |_::_,[],_=>by simp[Mu]
 |a::az,b::bs,l=>by show Mu f (az.map zA) (bs.map zE) (union l (M6 (f (zE b)) (texts (a.2.map zT))))=Mu f az bs (union l (M6 (f b) (texts a.2)));rw[h b,Un];exact ZK h az bs _
theorem ZQ{f:Ex->List Nm}(h:∀e,f (zE e)=f e):∀(k:List Ex)(l:List Nm),M7 f (k.map zE) l=M7 f k l
 |[],_=>rfl
 |p::ps,l=>by show M7 f (ps.map zE) (union l (f (zE p)))=M7 f ps (union l (f p));rw[h p];exact ZQ h ps _
theorem zMS:∀(n:Nat)(e:Ex),free n (zE e)=free n e
 |0,_=>rfl
 |n+1,e=>by
  have ih:=zMS n;rw[free,free,Q6,Us,Wz,Rv,WG];split
  .rfl
  .split
   .cases e.kids with
    |nil=>rfl
    |cons a l=>cases l with
     |nil=>simp[ih]
     |cons b l=>rfl
   .split
    .cases e.kids with
     |nil=>rfl
     |cons a l=>cases l with
      |nil=>rfl
      |cons b l=>cases l with
       |nil=>simp[ih]
       |cons c l=>rfl
    .split
     .cases e.kids with
      |nil=>rfl
      |cons a l=>simp[ih,ZQ ih]
     .split
      .cases e.kids with
       |nil=>rfl
       |cons a l=>simp[ih,ZQ ih]
      .split
       .cases e.kids with
        |nil=>rfl
        |cons a l=>simp[ih,ZK ih]
       .rfl
variable {wk:Ex->Nat->Bs->Bs} {fr:Ex->List Nm} {fns:List Nm}
theorem zKo(h:∀e k b,wk (zE e) k b=wk e k b)(hf:∀e,fr (zE e)=fr e)(b:Bs)(e:Ex):Mp wk fr b (zE e)=Mp wk fr b e:=by
 have hw:∀d,wk (zE d) 0=wk d 0:=λd=>funext λb=>h d 0 b
 unfold Mp;simp only[hf,Q6,Rv,Wz,XW,Yc,hw];cases e.kids with
 |nil=>rfl
 |cons a l=>cases l with
  |nil=>simp[hw]
  |cons c l=>rfl
theorem zMe(h:∀e k b,wk (zE e) k b=wk e k b)(hf:∀e,fr (zE e)=fr e)(b:Bs)(e:Ex):Mf wk fr fns b (zE e)=Mf wk fr fns b e:=by unfold Mf;simp only[Q6,Us,z_n,XW,Yc,zKo h hf]
theorem zKM{g:Bs->Ex->Bs}(h:∀b e,g b (zE e)=g b e):∀(l:List Ex)(b:Bs),(l.map zE).foldl g b=l.foldl g b
 |[],_=>rfl
 |e::l,b=>by rw[Ki,NV,NV,h];exact zKM h l _
theorem zLk:∀(n:Nat)(e:Ex),spread n (zE e)=(zE (spread n e).1,(spread n e).2.map zE)
 |0,_=>rfl
 |n+1,e=>by
  rw[spread,spread,Rv]
  match e.kids with
  |[]=>rfl
  |[_]=>rfl
  |[f,a]=>
   simp only[Ki,qO,Q6];split
   .rw[zLk n f];simp
   .simp
  |_::_::_::_=>rfl
theorem zLh(h:∀e k b,wk (zE e) k b=wk e k b)(names:List Nm):∀(a:List (Nat × List Tok))(k:List Ex)(b:Bs)(l:List (Nat × Nat × Nat)),armsOf wk names (a.map zA) (k.map zE) b l=armsOf wk names a k b l
 |[],_,_,_=>by simp[armsOf]
 |_::_,[],_,_=>by simp[armsOf]
 |a::az,d::ds,b,l=>by
  have hw:wk (zE d) 0=wk d 0:=funext λb=>h d 0 b
  simp only[Ki,armsOf,hw,zA,Un,q7];exact zLh h names az ds _ _
theorem zKp(h:∀e k b,wk (zE e) k b=wk e k b)(hf:∀e,fr (zE e)=fr e):∀(k:List Ex)(b:Bs)(l:List (List Nm)),makeAll wk fr (k.map zE) b l=makeAll wk fr k b l
 |[],_,_=>rfl
 |p::ps,b,l=>by simp only[Ki,makeAll,zKo h hf];exact zKp h hf ps _ _
theorem WJ(h:∀e k b,wk (zE e) k b=wk e k b)(hf:∀e,fr (zE e)=fr e)(e:Ex)(b:Bs):Qb wk fr fns (zE e) b=Qb wk fr fns e b:=by
 unfold Qb;rw[Rv];cases e.kids with
 |nil=>rfl
 |cons d ps=>simp only[Ki,Q6,Wz,h,zKp h hf,zKM (zMe h hf)]
theorem zMU(hf:∀e,fr (zE e)=fr e):∀(n:Nat)(e:Ex)(k:Nat)(b:Bs),work fr fns n (zE e) k b=work fr fns n e k b
 |0,_,_,_=>rfl
 |n+1,e,k,b=>by
  have ih:=zMU hf n;rw[work,work,Q6];split
  .simp only[zLk];rw[<-Je,zKM (zMe ih hf),q7,ih]
  .split
   .rw[Rv]
    match e.kids with
    |[]=>rfl
    |[_]=>rfl
    |[l,r]=>simp only[Ki,qO,hf,ih,Us]
    |_::_::_::_=>rfl
   .split
    .rw[Rv];cases e.kids with
     |nil=>rfl
     |cons s ds=>simp only[Ki,WG,ZK hf,zLh ih,ih]
    .split
     .have hl:Qb (work fr fns n) fr fns (zE e)=Qb (work fr fns n) fr fns e:=funext λb=>WJ ih hf e b
      simp only[hl,hf]
     .rw[zMe ih hf]
theorem zMg(hf:∀e,fr (zE e)=fr e)(n:Nat):∀(l:List By)(i:Nat)(bl:List (Nat × List Ds)),lines fr fns n i (l.map zN) bl=lines fr fns n i l bl
 |[],_,_=>rfl
 |f::l,i,bl=>by simp only[Ki,lines,zN,Un,zMU hf];exact zMg hf n l _ _
theorem zKq(n:Nat)(l:List By):program n (l.map zN)=program n l:=by unfold program;rw[zMg (zMS n),Ke,q7];rfl
end Cp
end
section
namespace Th
open Cp (Q6 Us z_n Yc XW Wz WG Rv Un)
def z0 (l:List Nat):List Nat:=l.map λ_=>0
theorem Sk(a b:List Nat):z0 (a++b)=z0 a++z0 b:=SO ..
theorem Yb:∀(l:List Tok)(seen:List (List UInt8)),N0 seen (l.map zT)=z0 (N0 seen l)
 |[],_=>rfl
 |t::r,seen=>by simp only[Ki,N0,Sk,Yb r,QL];by_cases hc:seen.contains t.s=true<;>simp only[hc,kP]<;>rfl
theorem ZU{w:Ex->List (List UInt8)->List Nat}(h:∀e a,w (zE e) a=z0 (w e a))(ar:List (List UInt8)):∀(l:List Tok)(k:List Ex)(seen:List (List UInt8)),Nc w ar seen (l.map zT) (k.map zE)=z0 (Nc w ar seen l k)
 |[],_,_=>by simp[Nc,z0]
 |_::_,[],_=>by simp[Nc,z0]
 |t::r,e::es,seen=>by simp only[Ki,Nc,Sk,ZU h ar r es,QL,h];by_cases hc:seen.contains t.s=true<;>simp only[hc,kP]<;>rfl
theorem zMh{w:Ex->List (List UInt8)->List Nat}(h:∀e a,w (zE e) a=z0 (w e a))(ar:List (List UInt8)):∀(l:List (Nat × List Tok))(k:List Ex),Oi w ar (l.map zA) (k.map zE)=z0 (Oi w ar l k)
 |[],_=>by simp[Oi,z0]
 |_::_,[]=>by simp[Oi,z0]
 |a::r,e::es=>by simp only[Ki,Oi,Sk,zMh h ar r es,zA,Yb,Un,h]
theorem Wy(l:List Ex):(l.map zE).headD Mw=zE (l.headD Mw):=by cases l<;>simp[Wr]
theorem zLj(e:Ex):(zE e).names=e.names.map zT:=by rw[Pb]
theorem zLm:∀(n:Nat)(e:Ex)(ar:List (List UInt8)),JL n (zE e) ar=z0 (JL n e ar)
 |0,_,_=>rfl
 |n+1,e,ar=>by
  have ih:=zLm n;rw[JL,JL,Q6,Us,Wz,Rv,WG,zLj,<-List.map_tail,Wy,Wy];split
  .split
   .rfl
   .rw[Pb];rfl
  .split
   .rw[ih,ih,Sk]
   .split
    .rw[ih,Yb,Sk]
    .split
     .rw[ih,ZU ih,Sk]
     .split
      .rw[ih,ZU ih,Sk]
      .split
       .rw[ih,zMh ih,Sk]
       .rfl
theorem zLl(n:Nat)(all:List (List UInt8)):∀(l:List By)(seen:List (List UInt8)),NM n all seen (l.map zN)=z0 (NM n all seen l)
 |[],_=>rfl
 |x::r,seen=>by simp only[Ki,NM,Sk,zLl n all r,zN,QL,Yb,Un,zLm];by_cases hc:seen.contains x.name.s=true<;>simp only[hc,kP]<;>rfl
theorem ZS(l:List By):JE (l.map zN)=JE l:=by simp[JE,zN,QL]
theorem zLg(z N:Nat)(l:List By)(R R':List Tok):(answer z (l.map zN,⟨R',none⟩) N).1=(answer z (l,⟨R,none⟩) N).1:=by
 have hm:∀l:List By,Pp (l.map zN)=Pp l:=λl=>by
  induction l with
  |nil=>rfl
  |cons x l ih=>simp only[Ki,Pp,zN,QL,ih,List.isEmpty_map]
 unfold answer;simp only[ZS,zLl,hm];cases NM N (JE l) [] l with
 |nil=>rfl
 |cons p r=>rfl
theorem ZT(l:List Tok):Mj (l.map zT)=Mj l:=by unfold Mj;rw[List.foldl_map];rfl
theorem zMf(e:Ex):level (zE e)=level e:=by unfold level;rw[Q6,Us]
theorem zMR:∀(n:Nat)(e:Ex),ends n (zE e)=ends n e
 |0,_=>rfl
 |n+1,e=>by rw[ends,ends,Q6,Rv,Wy,zMR n]
theorem X0(e:Ex)(l:Nat)(s:List UInt8):within (zE e) l s=within e l s:=by unfold within;rw[zMf]
theorem zJB{f:Ex->List UInt8}(h:∀e,f (zE e)=f e):∀(l:List Tok)(k:List Ex),MS f (l.map zT) (k.map zE)=MS f l k
 |[],_=>by simp[MS]
 |_::_,[]=>by simp[MS]
 |t::r,e::es=>by simp only[Ki,MS,h,zJB h r es];rfl
theorem zJK{f:Ex->List UInt8}{g:Ex->Bool}(h:∀e,f (zE e)=f e)(hg:∀e,g (zE e)=g e):∀(l:List (Nat × List Tok))(k:List Ex),MT f g (l.map zA) (k.map zE)=MT f g l k
 |[],_=>by simp[MT]
 |_::_,[]=>by simp[MT]
 |a::r,e::es=>by simp only[Ki,MT,h,hg,zJK h hg r es,PG,zA,ZT,List.isEmpty_map]
theorem zMT:∀(n:Nat)(e:Ex),text n (zE e)=text n e
 |0,_=>rfl
 |n+1,e=>by have ih:=zMT n;rw[text,text,Q6,Us,z_n,Yc,XW,Rv,WG,zLj,ZT,zMf,<-List.map_tail,Wy,Wy,ih,ih,X0,X0,X0,X0,zJK ih (zMR n),zJB ih]
theorem zJL(n:Nat)(l:List By):Md n (l.map zN)=Md n l:=by
 unfold Md;rw[List.foldl_map];have:(λ(s:List UInt8)(x:By)=>s++Pa n (zN x))=λs x=>s++Pa n x:=by
  funext s x
  simp only[Pa,zN,QL,ZT,zMT]
 rw[this]
end Th
end
section
namespace Th
variable {n m:Nat} {e a b:Ex}
theorem Rx:∀(n:Nat)(e:Ex),Mk e->Wf n e->LE n e
 |0,_,_,w=>w.elim
 |n+1,_,.num (v:=v) h,_=>λm c u hc=>by show lz (m+1) (Lib.itoa v++c::u)=_;rw[Lib.itoa_nonneg];exact X7 h hc
 |n+1,_,.name (t:=t) h,_=>λm c u hc=>by
  have ez:(⟨2,t.s,0⟩:Tok)=zT t:=by simp[zT,h.1]
  show lz (m+1) (t.s++c::u)=zT t::_;rw[WC h.2 hc,ez];rfl
 |n+1,_,.make (t:=t) (a:=a) h1 h2 h3,_=>λm c u hc=>by
  have e1:text (n+1) (Oe t a)++c::u=123::(Lib.decDigits t++44::(Lib.decDigits a++125::(c::u))):=by show[123]++Lib.decDigits t++[44]++Lib.decDigits a++[125]++c::u=_;simp
  show lz (m+5) _=_;rw[e1,QJ (by decide),X7 (by omega),QJ (by decide),X7 (by omega),QJ (by decide)];rfl
 |n+1,_,.fn (l:=l) (b:=b) h1 h2 h3,w=>λm c u hc=>by
  have ih:=Rx n b h3 (Ya w);have hp:=P3 h3 (Ya w);obtain⟨t,l,rfl⟩:∃t l',l=t::l':=by cases l with|nil=>exact absurd rfl h1|cons t l=>exact⟨t,l,rfl⟩
  have e1:text (n+1) (mkFun (t::l) b)++c::u=92::((Mj (t::l)).tail++46::32::(text n b++c::u)):=by show[92]++(Mj (t::l)).tail++[46,32]++text n b++c::u=_;simp
  have e2:m+(tT (n+1) (mkFun (t::l) b)).length=m+(tT n b).length+1+(t::l).length+1:=by show m+(sg [92]::((t::l).map zT++sg [46]::tT n b)).length=_;simp;omega
  have e3:lz (m+(tT n b).length+1+(t::l).length) ((Mj (t::l)).tail++46::32::(text n b++c::u))=(t::l).map zT++lz (m+(tT n b).length+1) (46::32::(text n b++c::u)):=by rw[<-XY (t::l) h2 _ _ (by decide),Ww];exact(NS (by decide) (by simp;omega) _).symm
  rw[e1,e2,QJ (by decide),e3,QJ (by decide),NS (by decide) (by omega),ih m c u hc];show _=sg [92]::((t::l).map zT++sg [46]::tT n b)++_;simp
 |n+1,_,.call (a:=a) (b:=b) ha hb,w=>λm c u hc=>by
  have ia:=XT (Rx n a ha (Te w).1) 4;have ib:=XT (Rx n b hb (Te w).2) 5;have hp:=P3 hb (Te w).2;have hq:=Q5 (e:=b) 5 (tT n b);have e1:text (n+1) (M5 a b)++c::u=within a 4 (text n a)++32::(within b 5 (text n b)++c::u):=by show within a 4 (text n a)++[32]++within b 5 (text n b)++c::u=_;simp
  rw[e1,Va,IJ,Kf (wT a 4 (tT n a)).length,<-Nat.add_assoc,ia _ _ _ (by decide),NS (by decide) (by omega),ib _ _ _ hc];simp
 |n+1,_,.op (t:=t) (a:=a) (b:=b) hk h6 ha hb,w=>λm c u hc=>by
  have ia:=XT (Rx n a ha (Rt w).1) (max (level (JF t a b)) 2);have ib:=XT (Rx n b hb (Rt w).2) (level (JF t a b)+1);have hp:=P3 hb (Rt w).2;have hq:=Q5 (e:=b) (level (JF t a b)+1) (tT n b);have e1:text (n+1) (JF t a b)++c::u=within a (max (level (JF t a b)) 2) (text n a)++32::(t.s++32::(within b (level (JF t a b)+1) (text n b)++c::u)):=by show within a (max (level (JF t a b)) 2) (text n a)++[32]++t.s++[32]++within b (level (JF t a b)+1) (text n b)++c::u=_;simp
  have e2:m+(tT (n+1) (JF t a b)).length=m+(wT b (level (JF t a b)+1) (tT n b)).length+1+(wT a (max (level (JF t a b)) 2) (tT n a)).length:=by rw[Ur];simp;omega
  rw[e1,e2,ia _ _ _ (by decide),NS (by decide) (by omega),WH (by simp[h6]),NS (by decide) (by omega),ib _ _ _ hc,Ur];simp
 |n+1,_,.lt (r:=r) (l:=l) (ps:=ps) (b:=b) h1 h2 h3 h4 h5,w=>λm c u hc=>by
  obtain⟨w1,w2⟩:=WD w;have ib:=Rx n b h5 w2;have hp:=P3 h5 w2;have il:=zK3 (n:=n) l ps h2 h1 h3 (λp hp=>⟨Rx n p (h4 p hp) (w1 p hp),P3 (h4 p hp) (w1 p hp)⟩);have cV:=zLG (tT n) l ps h2;have aL:1<=l.length:=by cases l with|nil=>exact absurd rfl h1|cons t l=>simp
  have eT:tT (n+1) (mkLet r l ps b)=sg Ol::((if r then[sg Na]else[])++(bT (tT n) l ps++sg Mx::tT n b)):=by cases r<;>rfl
  cases r with
  |true=>
   have e1:text (n+1) (mkLet true l ps b)++c::u=Ol++32::(Na++32::(MC (MS (text n) l ps)++32::(Mx++32::(text n b++c::u)))):=by show[108,101,116,32,114,101,99,32]++MC (MS (text n) l ps)++[32,105,110,32]++text n b++c::u=_;simp[Ol,Na,Mx]
   have e2:m+(tT (n+1) (mkLet true l ps b)).length=m+(tT n b).length+1+(bT (tT n) l ps).length+1+1:=by rw[eT];simp;omega
   rw[e1,e2,Uq (by decide),NS (by decide) (by omega),Uq (by decide),NS (by decide) (by omega),il _ _ _ (by decide),NS (by decide) (by omega),Uq (by decide),NS (by decide) (by omega),ib m c u hc,eT];simp
  |false=>
   have e1:text (n+1) (mkLet false l ps b)++c::u=Ol++32::(MC (MS (text n) l ps)++32::(Mx++32::(text n b++c::u))):=by show[108,101,116,32]++MC (MS (text n) l ps)++[32,105,110,32]++text n b++c::u=_;simp[Ol,Mx]
   have e2:m+(tT (n+1) (mkLet false l ps b)).length=m+(tT n b).length+1+(bT (tT n) l ps).length+1:=by rw[eT];simp;omega
   rw[e1,e2,Uq (by decide),NS (by decide) (by omega),il _ _ _ (by decide),NS (by decide) (by omega),Uq (by decide),NS (by decide) (by omega),ib m c u hc,eT];simp
 |n+1,_,.cs (l:=l) (bs:=ps) (a:=a) h1 h2 h3 h4 h5,w=>λm c u hc=>by
  obtain⟨w1,w2⟩:=Wu w;have ib:=Rx n a h5 w2;have hp:=P3 h5 w2;have il:=zLQ (n:=n) l ps h2 h1 h3 (λp hp=>⟨Rx n p (h4 p hp) (w1 p hp),P3 (h4 p hp) (w1 p hp)⟩);have cV:=zLE (tT n) (ends n) l ps h2;have aL:1<=l.length:=by cases l with|nil=>exact absurd rfl h1|cons t l=>simp
  have eT:tT (n+1) (mkCase a l ps)=sg OK::(tT n a++sg Nt::aT (tT n) (ends n) l ps):=rfl;have e1:text (n+1) (mkCase a l ps)++c::u=OK++32::(text n a++32::(Nt++32::(MC (MT (text n) (ends n) l ps)++c::u))):=by show[99,97,115,101,32]++text n a++[32,111,102,32]++MC (MT (text n) (ends n) l ps)++c::u=_;simp[OK,Nt]
  have e2:m+(tT (n+1) (mkCase a l ps)).length=m+(aT (tT n) (ends n) l ps).length+1+(tT n a).length+1:=by rw[eT];simp;omega
  rw[e1,e2,Uq (by decide),NS (by decide) (by omega),ib _ _ _ (by decide),NS (by decide) (by omega),Uq (by decide),NS (by decide) (by omega),il m c u hc,eT];simp
def lT (n:Nat) (x:By):List Tok:=zT x.name::(x.params.map zT++sg [61]::(tT n x.e++[sg [59]]))
def pT (n:Nat):List By->List Tok
 |[]=>[⟨0,[],0⟩]
 |x::l=>lT n x++pT n l
theorem zNi(n:Nat):∀l:List By,1<=(pT n l).length
 |[]=>by simp[pT]
 |x::l=>by simp[pT,lT]
theorem ZJ(n m:Nat):∀l:List By,(∀x∈l,Tf x/\Wf n x.e)->lz (m+(pT n l).length) (Md n l)=pT n l
 |[],_=>by show lz (m+1) []=_;unfold lz;rw[ME];rfl
 |x::l,h=>by
  obtain⟨⟨h1,h2,h3⟩,w⟩:=h x (by simp);have ez:(⟨2,x.name.s,0⟩:Tok)=zT x.name:=by simp[zT,h1.1]
  have ih:=ZJ n m l λy hy=>h y (by simp[hy])
  have he:=Rx n x.e h3 w;have hp:=P3 h3 w;have hq:=zNi n l;have e1:Md n (x::l)=x.name.s++(Mj x.params++32::([61]++32::(text n x.e++59::10::Md n l))):=by rw[zJt];simp[Pa]
  have e2:m+(pT n (x::l)).length=m+(pT n l).length+1+(tT n x.e).length+1+x.params.length+1:=by simp[pT,lT];omega
  have:∃y v,Mj x.params++32::([61]++32::(text n x.e++59::10::Md n l))=y::v/\MY y=false:=by
   cases x.params with
   |nil=>exact⟨32,_,rfl,by decide⟩
   |cons y l=>rw[Ww];exact⟨32,_,rfl,by decide⟩
  obtain⟨y,v,k1,k2⟩:=this;rw[e1,e2,k1,WC h1.2 k2,<-k1,XY _ h2 _ _ (by decide),NS (by decide) (by omega),WH (by decide),NS (by decide) (by omega),he _ _ _ (by decide),QJ (by decide),NS (by decide) (by omega),ih,ez];simp[pT,lT]
theorem zLb{d:Nat}(n:Nat):∀(l:List By)(k:Nat)(L:List By),(∀x∈l,Tf x/\Wf n x.e)->l.length<k->(pT n l).length<=d->N7 (Mn d) k L ⟨pT n l,none⟩=some (L++l.map zN,⟨[⟨0,[],0⟩],none⟩)
 |[],k,L,_,hk,_=>by obtain⟨k,rfl⟩:∃j,k=j+1:=⟨k-1,by omega⟩;simp[N7,pT,St.hd]
 |x::l,k,L,h,hk,hd=>by
  obtain⟨k,rfl⟩:∃j,k=j+1:=⟨k-1,by omega⟩;obtain⟨⟨h1,h2,h3⟩,w⟩:=h x (by simp);have Ar:(zT x.name).k=2:=h1.1;have iH:(tT n x.e).length<d/\(pT n l).length<=d:=by simp[pT,lT]at hd;omega
  have ih:=zLb n l k (L++[zN x]) (λy hy=>h y (by simp[hy])) (by simp at hk;omega) iH.2;have hx:=(zMI n).1 x.e h3 w d true (sg [59]::pT n l) iH.1 ⟨_,_,rfl,rfl,.inr (.inl rfl)⟩ (λ_=>by
   unfold NL;rw[ND];cases l with
   |nil=>rfl
   |cons y l=>have:=(Vb (h y (by simp)).1.1.2).2.2.2.2;simp[pT,lT,QL,this])
  have e0:pT n (x::l)=zT x.name::(x.params.map zT++sg [61]::(tT n x.e++sg [59]::pT n l)):=by simp[pT,lT]
  have e1:IG ⟨zT x.name::(x.params.map zT++sg [61]::(tT n x.e++sg [59]::pT n l)),none⟩=(zT x.name,⟨x.params.map zT++sg [61]::(tT n x.e++sg [59]::pT n l),none⟩):=by simp[IG,St.kind,St.hd,St.qM,Ar]
  have e2:=ZZ h2 (s:=sg [61]) (by decide) (tT n x.e++sg [59]::pT n l);have e3:∀X,want [61] ⟨sg [61]::X,none⟩=⟨X,none⟩:=by simp[want,St.is,St.hd,St.qM,sg]
  have e4:∀X,want [59] ⟨sg [59]::X,none⟩=⟨X,none⟩:=by simp[want,St.is,St.hd,St.qM,sg]
  rw[e0,N7,nB (by simp[St.hd,Ar])];unfold Qs;simp only[e1,e2,e3,hx,NW,e4];rw[show(⟨zT x.name,x.params.map zT,zE x.e⟩:By)=zN x from rfl,ih];simp
theorem zMH(n:Nat):∀l:List By,l.length<(pT n l).length
 |[]=>by simp[pT]
 |x::l=>by have:=zMH n l;simp[pT,lT];omega
end Th
theorem zKI{n:Nat}{l:List By}(h:∀x∈l,Tf x/\Wf n x.e){s:ByteArray}(hs:s.data.toList=Md n l)(h6:s.size<=600):∃q,Y7 s=some q/\q.1.map Th.zN=l.map Th.zN/\q.2.bad=none:=by
 have hz:s.data.toList.length=s.size:=by rw[SX];rfl
 have h0:=ZJ n 0 l h;have hl:=Th.UI (0+(Th.pT n l).length) (Md n l) 0;have aC:(Th.lz (0+(Th.pT n l).length) (Md n l)).length<=s.size+1:=by unfold Th.lz;rw[q7,<-hz,hs];exact hl
 rw[h0]at aC;have h1:=ZJ n (s.size+1-(Th.pT n l).length) l h;rw[show s.size+1-(Th.pT n l).length+(Th.pT n l).length=s.size+1 by omega,<-hs]at h1;have h2:=zKd (zK9 1000) 1000 [] ⟨Mr s,none⟩;have e1:Th.zS ⟨Mr s,none⟩=⟨Th.pT n l,none⟩:=by rw[<-h1];rfl
 have:=zMH n l;rw[e1,qO,zLb n l 1000 [] h (by omega) (by omega)]at h2;show∃q,N7 (Mn 1000) 1000 [] ⟨Mr s,none⟩=some q/\_;cases hq:N7 (Mn 1000) 1000 [] ⟨Mr s,none⟩with
 |none=>rw[hq]at h2;cases h2
 |some q=>
  rw[hq]at h2;simp only[Th.zP,Qx,IA,O2,MQ]at h2;refine⟨q,rfl,h2.1.symm,?_⟩;have h3:=qz St.bad h2.2;cases hb:q.2.bad with
  |none=>rfl
  |some p=>simp[Th.zS,hb]at h3
end
end Go.Proofs.YtgahgkddaljmkaaGreatDoor
