/- Gc6 .. Sf4 -/
import Derived.Test.YtgahgkddaljmkaaGreatDoorV14
set_option maxRecDepth 100000
set_option maxHeartbeats 4000000
namespace Go.Proofs.YtgahgkddaljmkaaGreatDoor
open Tryz Th Cp
section
namespace Ab
variable {s:nG} {fc:List Int} {h:List Nd} {st:List Wd} {fns:List Nat} {φ:Nat->Option Nat}{ws':List Int}
theorem Rel.Tq(R:Rel s fc h st fns φ){top':Nat}{st':List Wd}(hl:ws'.length=s.ws.length)(hk:∀j,s.low<=j->j<s.free->ws'[j]?=s.ws[j]?)(iY:s.free<=top')(fg:top'+st'.length=s.low+s.half)(dY:∀(i:Nat)(w:Wd),st'[i]?=some w->∃x,ws'[s.low+s.half-1-i]?=some x/\RW φ h x w):Rel { s with ws:=ws',top:=top' } fc h st' fns φ:=by refine⟨R.low,by simp only;rw[hl];exact R.len,by simp only;rw[hl];exact R.wl,R.lf,iY,fg,dY,R.fl,R.fn,?_,R.Qz,R.ok,R.fw⟩;intro a p hp;obtain⟨nd,h1,h2,h3,h4⟩:=R.N3 a p hp;exact⟨nd,h1,h2,h3,h4.congr (λj j1 j2=>hk j (by omega) (by omega))⟩
variable {φ φ':Nat->Option Nat}{h h':List Nd}{x:Int}{a:Nat}
theorem Rf.mono(h1:∀a p,φ a=some p->φ' a=some p)(h2:∀(a b:Nat),h[a]?=some (.fwd b)->h'[a]?=some (.fwd b))(hr:Rf φ h x a):Rf φ' h' x a:=by
 obtain⟨p,e,hp⟩:=hr;refine⟨p,e,?_⟩;rcases hp with hp|⟨b,hb,hp⟩
 .exact .inl (h1 a p hp)
 .exact .inr ⟨b,h2 a b hb,h1 b p hp⟩
theorem RW.mono{φ φ':Nat->Option Nat}{h h':List Nd}(h1:∀a p,φ a=some p->φ' a=some p)(h2:∀(a b:Nat),h[a]?=some (.fwd b)->h'[a]?=some (.fwd b)){x:Int}{w:Wd}(hr:RW φ h x w):RW φ' h' x w:=by
 cases w with
 |ad a=>exact Rf.mono h1 h2 hr
 |mk k b=>exact hr
theorem At.mono{ws:List Int}{φ φ':Nat->Option Nat}{h h':List Nd}(h1:∀a p,φ a=some p->φ' a=some p)(h2:∀(a b:Nat),h[a]?=some (.fwd b)->h'[a]?=some (.fwd b)){p:Nat}{nd:Nd}(ha:At ws φ h p nd):At ws φ' h' p nd:=by
 rcases ha with⟨b,p',e1,e2,e3⟩|⟨e1,e2,e3,e4⟩
 .exact .inl ⟨b,p',e1,h1 b p' e2,e3⟩
 .refine .inr ⟨e1,e2,e3,λi f hf=>?_⟩;obtain⟨x,x1,x2⟩:=e4 i f hf;exact⟨x,x1,x2.mono h1 h2⟩
def grow (φ:Nat->Option Nat) (n p:Nat):Nat->Option Nat:=λa=>if a=n then some p else φ a
theorem Rel.grown(R:Rel s fc h st fns φ)(p:Nat):∀a q,φ a=some q->grow φ h.length p a=some q:=by intro a q hq;obtain⟨nd,h1,_⟩:=R.N3 a q hq;have:=(Dq.1 h1).1;unfold grow;rw[qj];exact hq
variable {nd:Nd}
theorem Vx :∀(a b:Nat),h[a]?=some (.fwd b)->(h++[nd])[a]?=some (.fwd b):=by intro a b hb;rw[Pq (Dq.1 hb).1];exact hb
theorem Rel.alloc(R:Rel s fc h st fns φ)(bU:PT nd)(hf:Ks nd=false)(ew:s.free+sz nd<=s.top)(hl:ws'.length=s.ws.length)(hk:∀j,(j<s.free\/s.free+sz nd<=j)->ws'[j]?=s.ws[j]?)(aV:Rr ws' (Rf (grow φ h.length s.free) (h++[nd])) s.free nd):Rel { s with ws:=ws',free:=s.free+sz nd } fc (h++[nd]) st fns (grow φ h.length s.free):=by
 have hg:=R.grown s.free;have gU:(h++[nd])[h.length]?=some nd:=by simp
 have fg:=R.tp;have jE:∀a p,grow φ h.length s.free a=some p->(a=h.length/\p=s.free)\/φ a=some p:=by
  intro a p hp;unfold grow at hp;split at hp
  .next e=>cases hp;exact .inl ⟨e,rfl⟩
  .exact .inr hp
 have hold:∀(a:Nat)(n:Nd),(h++[nd])[a]?=some n->(a=h.length/\n=nd)\/h[a]?=some n:=by
  intro a n hn;rw[OQ]at hn;split at hn
  .exact .inr hn
  .next nO=>
   have:=(Dq.1 hn).1;simp at this;have h1:a-h.length=0:=by omega
   rw[h1]at hn;simp at hn;exact .inl ⟨by omega,hn.symm⟩
 refine⟨R.low,by simp only;rw[hl];exact R.len,by simp only;rw[hl];exact R.wl,by simp only;have:=R.lf;omega,ew,R.tp,?_,R.fl,?_,?_,?_,?_,?_⟩
 .intro i w hw;have br:=(Dq.1 hw).1;obtain⟨x,x1,x2⟩:=R.NR i w hw;exact⟨x,by simp only;rw[hk _ (by omega)];exact x1,x2.mono hg Vx⟩
 .intro i a ha;obtain⟨x,x1,x2⟩:=R.fn i a ha;exact⟨x,x1,x2.mono hg Vx⟩
 .intro a p hp;rcases jE a p hp with⟨rfl,rfl⟩|hp
  .exact⟨nd,gU,R.lf,qP _,.inr ⟨hf,aV⟩⟩
  .obtain⟨n,h1,h2,h3,h4⟩:=R.N3 a p hp;refine⟨n,by rw[Pq (Dq.1 h1).1];exact h1,h2,by simp only;omega,?_⟩;exact(h4.congr (λj j1 j2=>hk j (by omega))).mono hg Vx
 .intro a a' p p' n n' hp lu hn gw aH;rcases jE a p hp with⟨rfl,rfl⟩|hp
  .rcases jE a' p' lu with⟨rfl,rfl⟩|lu
   .exact absurd rfl aH
   .obtain⟨m,h1,h2,h3,h4⟩:=R.N3 a' p' lu;rcases hold a' n' gw with⟨e,_⟩|gw
    .exact absurd e.symm aH
    .rw[h1]at gw;cases gw;exact .inr h3
  .obtain⟨m,h1,h2,h3,h4⟩:=R.N3 a p hp;rcases hold a n hn with⟨e,_⟩|hn
   .have:=(Dq.1 h1).1;omega
   .rw[h1]at hn;cases hn;rcases jE a' p' lu with⟨rfl,rfl⟩|lu
    .exact .inl h3
    .rcases hold a' n' gw with⟨e,_⟩|gw
     .obtain⟨m',g1,_⟩:=R.N3 a' p' lu;have:=(Dq.1 g1).1;omega
     .exact R.Qz a a' p p' n n' hp lu h1 gw aH
 .intro a n hn;rcases hold a n hn with⟨_,rfl⟩|hn
  .exact bU
  .exact R.ok a n hn
 .intro a b hb;rcases hold a _ hb with⟨_,e⟩|hb
  .rw[<-e]at hf;simp[Ks]at hf
  .obtain⟨m,g1,g2⟩:=R.fw a b hb;exact⟨m,by rw[Pq (Dq.1 g1).1];exact g1,g2⟩
variable {p:Nat}
theorem Rel.zxM(R:Rel s fc h st fns φ){nd':Nd}(hp:φ a=some p)(hn:h[a]?=some nd)(jZ:Ks nd=false)(bU:PT nd')(hs:sz nd'<=sz nd)(hl:ws'.length=s.ws.length)(hk:∀j,(j<p\/p+sz nd<=j)->ws'[j]?=s.ws[j]?)(aV:At ws' φ (h.set a nd') p nd')(gr:Ks nd'=true->∀(x b:Nat),h[x]?=some (.fwd b)->b≠a)(xA:∀b,nd'=.fwd b->b≠a/\∃n,h[b]?=some n/\Ks n=false):Rel { s with ws:=ws' } fc (h.set a nd') st fns φ:=by
 have aU:=(Dq.1 hn).1;have fg:=R.tp;have iY:=R.ft;obtain⟨GU,q1,q2,q3,q4⟩:=R.N3 a p hp;rw[hn]at q1;cases q1;have dC:∀(c b:Nat),h[c]?=some (.fwd b)->(h.set a nd')[c]?=some (.fwd b):=by intro c b hb;rw[Kw,pL (λe=>by subst e;rw[hn]at hb;cases hb;simp[Ks]at jZ)];exact hb
 have aY:∀(c:Nat)(n:Nd),(h.set a nd')[c]?=some n->(c=a/\n=nd')\/(c≠a/\h[c]?=some n):=by
  intro c n hc;rw[Kw]at hc;by_cases e:a=c
  .rw[nB e,nB aU]at hc;cases hc;exact .inl ⟨e.symm,rfl⟩
  .rw[pL e]at hc;exact .inr ⟨λx=>e x.symm,hc⟩
 have hm:∀c q,φ c=some q->φ c=some q:=λ_ _ x=>x
 refine⟨R.low,by simp only;rw[hl];exact R.len,by simp only;rw[hl];exact R.wl,R.lf,R.ft,R.tp,?_,R.fl,?_,?_,?_,?_,?_⟩
 .intro i w hw;have br:=(Dq.1 hw).1;obtain⟨x,x1,x2⟩:=R.NR i w hw;exact⟨x,by simp only;rw[hk _ (by omega)];exact x1,x2.mono hm dC⟩
 .intro i c hc;obtain⟨x,x1,x2⟩:=R.fn i c hc;exact⟨x,x1,x2.mono hm dC⟩
 .intro c q hq;by_cases e:c=a
  .subst e;rw[hp]at hq;cases hq;exact⟨nd',by rw[Kw,nB rfl,nB aU],q2,by simp only;omega,aV⟩
  .obtain⟨n,h1,h2,h3,h4⟩:=R.N3 c q hq;have hd:=R.Qz c a q p n nd hq hp h1 hn e;refine⟨n,by rw[Kw,pL (λx=>e x.symm)];exact h1,h2,h3,(h4.congr (λj j1 j2=>hk j (by omega))).mono hm dC⟩
 .intro c c' q q' n n' hq lx hc eV aH;rcases aY c n hc with⟨e1,e2⟩|⟨e,bH⟩
  .subst e1 e2;rcases aY c' n' eV with⟨e3,_⟩|⟨e',bT⟩
   .exact absurd e3.symm aH
   .have h9:=R.Qz c c' q q' nd n' hq lx hn bT aH;rw[hp]at hq;cases hq;omega
  .rcases aY c' n' eV with⟨e3,e4⟩|⟨e',bT⟩
   .subst e3 e4;have h9:=R.Qz c c' q q' n nd hq lx bH hn aH;omega
   .exact R.Qz c c' q q' n n' hq lx bH bT aH
 .intro c n hc;rcases aY c n hc with⟨_,rfl⟩|⟨_,hc⟩
  .exact bU
  .exact R.ok c n hc
 .intro c b hb;rcases aY c _ hb with⟨_,e⟩|⟨_,aA⟩
  .obtain⟨h1,n,h2,h3⟩:=xA b e.symm;exact⟨n,by rw[Kw,pL (λx=>h1 x.symm)];exact h2,h3⟩
  .obtain⟨n,h2,h3⟩:=R.fw c b aA;by_cases e:b=a
   .refine⟨nd',by rw[e,Kw,nB rfl,nB aU],?_⟩;cases hx:Ks nd' with
    |false=>rfl
    |true=>exact absurd e (gr hx c b aA)
   .exact⟨n,by rw[Kw,pL (λx=>e x.symm)];exact h2,h3⟩
variable {s:nG} {fc:List Int} {h:List Nd} {st:List Wd} {fns:List Nat} {φ:Nat->Option Nat}
theorem Rel.hi(R:Rel s fc h st fns φ):s.low+s.half<=s.ws.length:=by have h1:=R.low;have h2:=R.len;omega
theorem Rel.word(R:Rel s fc h st fns φ){d:Nat}(hd:d<st.length):∃w x,st[st.length-1-d]?=some w/\s.ws[s.top+d]?=some x/\RW φ h x w:=by have fg:=R.tp;obtain⟨w,hw⟩:∃w,st[st.length-1-d]?=some w:=⟨_,Iv (by omega)⟩;obtain⟨x,x1,x2⟩:=R.NR _ w hw;rw[show s.low+s.half-1-(st.length-1-d)=s.top+d by omega]at x1;exact⟨w,x,hw,x1,x2⟩
variable {w:Wd}
theorem Sv(R:Rel s fc h st fns φ)(ew:s.free+1<=s.top)(hw:RW φ h x w):s.push x=some { s with top:=s.top-1,ws:=s.ws.set (s.top-1) x }/\Rel { s with top:=s.top-1,ws:=s.ws.set (s.top-1) x } fc h (st++[w]) fns φ:=by
 have fg:=R.tp;have gS:=R.hi;refine⟨?_,?_⟩
 .unfold nG.push;rw[Ji]
 .refine R.Tq (ws':=s.ws.set (s.top-1) x) (top':=s.top-1) (by simp) (λj h1 h2=>by rw[Kw,qj]) (by omega) (by simp;omega) (λi w' fY=>?_);rw[OQ]at fY;split at fY
  .next br=>obtain⟨y,y1,y2⟩:=R.NR i w' fY;exact⟨y,by rw[Kw,qj];exact y1,y2⟩
  .next br=>
   have:=(Dq.1 fY).1;simp at this;have h1:i-st.length=0:=by omega
   rw[h1]at fY;simp at fY;subst fY;refine⟨x,?_,hw⟩;rw[show s.low+s.half-1-i=s.top-1 by omega,Kw,nB rfl,Ji]
variable {c:Nat}
theorem VA(R:Rel s fc h st fns φ)(hc:c<=st.length):s.pop c=some { s with top:=s.top+c }/\Rel { s with top:=s.top+c } fc h (st.take (st.length-c)) fns φ:=by
 have fg:=R.tp;have gS:=R.hi;have eE:=R.wl;have iY:=R.ft;refine⟨?_,?_⟩
 .unfold nG.pop;rw[Ji]
 .refine R.Tq (ws':=s.ws) (top':=s.top+c) rfl (λj _ _=>rfl) (by omega) (by rw[NQ];omega) (λi w hw=>?_);rw[Qf]at hw;split at hw
  .exact R.NR i w hw
  .cases hw
theorem zmy(R:Rel s fc h st fns φ){xs:List Int}(bU:PT nd)(hf:Ks nd=false)(ew:s.free+sz nd<=s.top)(dk:xs.length+1=sz nd)(xS:∀v,nd=.num v->xs[0]?=some v)(bZ:∀(i f:Nat),(Mt nd)[i]?=some f->∃x,xs[i]?=some x/\Rf (grow φ h.length s.free) (h++[nd]) x f):
  s.node (Ip nd) xs=some { s with free:=s.free+sz nd,ws:=Go.splice (s.ws.set s.free (Ip nd)) (s.free+1) xs }/\Rel { s with free:=s.free+sz nd,ws:=Go.splice (s.ws.set s.free (Ip nd)) (s.free+1) xs } fc (h++[nd]) st fns (grow φ h.length s.free):=by
 have fg:=R.tp;have gS:=R.hi;have aK:(Go.splice (s.ws.set s.free (Ip nd)) (s.free+1) xs).length=s.ws.length:=by rw[Q1 _ _ _ (by rw[MH];omega),MH]
 have aY:∀j,(Go.splice (s.ws.set s.free (Ip nd)) (s.free+1) xs)[j]?=if j=s.free then some (Ip nd)else if s.free<j/\j<s.free+sz nd then xs[j-(s.free+1)]? else s.ws[j]?:=by
  intro j;rw[Rh _ _ _ _ (by rw[MH];omega)];by_cases h1:j=s.free
  .rw[Ji,nB h1,h1,Kw,nB rfl,Ji]
  .have cS:(s.ws.set s.free (Ip nd))[j]?=s.ws[j]?:=by rw[Kw,pL (λe=>h1 e.symm)]
   rw[pL h1];by_cases h2:j<s.free+1
   .rw[nB h2,qj,cS]
   .rw[pL h2];by_cases h3:j<s.free+1+xs.length
    .rw[nB h3,Ji]
    .rw[pL h3,qj,cS]
 have hs:=SK nd;refine⟨?_,?_⟩
 .unfold nG.node;rw[Ji];congr 2;omega
 .refine R.alloc bU hf ew aK (λj hj=>by rw[aY,qj,qj]) ⟨by rw[aY,nB rfl],λv hv=>?_,λi f hf=>?_⟩
  .have h2:sz nd=2:=by rw[hv];rfl
   rw[aY,qj,Ji,show s.free+1-(s.free+1)=0 by omega];exact xS v hv
  .obtain⟨x,x1,x2⟩:=bZ i f hf;have:=(Dq.1 x1).1;exact⟨x,by rw[aY,qj,Ji,show s.free+1+i-(s.free+1)=i by omega];exact x1,x2⟩
def TE:List Wd->Option (List Nat)
 |[]=>some []
 |.ad a::l=>(TE l).map (a::·)
 |.mk _ _::_=>none
theorem zqg:∀{l:List Wd}{fs:List Nat},TE l=some fs->fs.length=l.length/\∀(i f:Nat),fs[i]?=some f->l[i]?=some (.ad f)
 |[],fs,h=>by simp[TE]at h;subst h;simp
 |.ad a::l,fs,h=>by
  rw[TE]at h;simp only[M9]at h;obtain⟨r,h1,rfl⟩:=h;obtain⟨e1,e2⟩:=zqg h1;refine⟨by simp[e1],λi f hf=>?_⟩;cases i with
  |zero=>simp at hf;simp[hf]
  |succ i=>simpa using e2 i f (by simpa using hf)
 |.mk _ _::l,fs,h=>by simp[TE]at h
def O0 (st:List Wd) (c:Nat):Option (List Nat):=if c<=st.length then TE (st.drop (st.length-c)).reverse else none
variable {fs:List Nat}
theorem YU{st:List Wd}(ht:O0 st c=some fs):c<=st.length/\fs.length=c/\∀(i f:Nat),fs[i]?=some f->st[st.length-1-i]?=some (.ad f):=by
 unfold O0 at ht;split at ht
 .next hc=>
  obtain⟨e1,e2⟩:=zqg ht;have hl:fs.length=c:=by rw[e1];simp;omega
  refine⟨hc,hl,λi f hf=>?_⟩;have br:=(Dq.1 hf).1;have:=e2 i f hf;rw[List.getElem?_reverse (by simp;omega),Qe]at this;rw[<-this];congr 1;simp;omega
 .cases ht
theorem Rel.O0(R:Rel s fc h st fns φ){c:Nat}{fs:List Nat}(ht:O0 st c=some fs):(s.words s.top c).length=c/\∀(i f:Nat),fs[i]?=some f->∃x,(s.words s.top c)[i]?=some x/\Rf φ h x f:=by obtain⟨h1,h2,h3⟩:=YU ht;have fg:=R.tp;have gS:=R.hi;unfold nG.words;refine⟨by rw[NQ,Oo];omega,λi f hf=>?_⟩;have br:=(Dq.1 hf).1;obtain⟨w,x,w1,w2,w3⟩:=R.word (d:=i) (by omega);rw[h3 i f hf]at w1;cases w1;exact⟨x,by rw[Qf,Ji,Qe];exact w2,w3⟩
theorem Rel.Vr(R:Rel s fc h st fns φ)(hr:Rf φ h x a)(hn:h[a]?=some nd)(hf:Ks nd=false):∃p:Nat,x=p/\φ a=some p/\s.low<=p/\p+sz nd<=s.free/\Rr s.ws (Rf φ h) p nd:=by
 obtain⟨p,rfl,hp⟩:=hr;rcases hp with hp|⟨b,hb,_⟩
 .obtain⟨n,h1,h2,h3,h4⟩:=R.N3 a p hp;rw[hn]at h1;cases h1;rcases h4 with⟨b,p',e,_⟩|⟨_,h5⟩
  .rw[e]at hf;simp[Ks]at hf
  .exact⟨p,rfl,hp,h2,h3,h5⟩
 .rw[hn]at hb;cases hb;simp[Ks]at hf
theorem Rr.head{ws:List Int}{ρ:Int->Nat->Prop}{p:Nat}{nd:Nd}(h:Rr ws ρ p nd)(bU:PT nd){s:nG}(hw:s.ws=ws):s.head p=some (Ip nd):=by obtain⟨r1,r2⟩:=Uz bU;unfold nG.head;rw[hw,h.1];simp only;rw[qj]
theorem Rr.fields{s:nG}{ρ:Int->Nat->Prop}(h:Rr s.ws ρ p nd)(hl:p+1+(Mt nd).length<=s.ws.length):(s.words (p+1) (Mt nd).length).length=(Mt nd).length/\∀(i f:Nat),(Mt nd)[i]?=some f->∃x,(s.words (p+1) (Mt nd).length)[i]?=some x/\ρ x f:=by unfold nG.words;refine⟨by rw[NQ,Oo];omega,λi f hf=>?_⟩;have br:=(Dq.1 hf).1;obtain⟨x,x1,x2⟩:=h.2.2 i f hf;exact⟨x,by rw[Qf,Ji,Qe];exact x1,x2⟩
theorem zgq(R:Rel s fc h st fns φ){xs:List Int}(hl:xs.length=fs.length)(ew:s.free+xs.length<=s.top)(hx:∀(i f:Nat),fs[i]?=some f->∃x,xs[i]?=some x/\Rf φ h x f):
  s.UH xs=some { s with top:=s.top-xs.length,ws:=Go.splice s.ws (s.top-xs.length) xs }/\Rel { s with top:=s.top-xs.length,ws:=Go.splice s.ws (s.top-xs.length) xs } fc h (st++(fs.map Wd.ad).reverse) fns φ:=by
 have fg:=R.tp;have gS:=R.hi;refine⟨?_,?_⟩
 .unfold nG.UH;rw[Ji]
 .refine R.Tq (ws':=Go.splice s.ws (s.top-xs.length) xs) (top':=s.top-xs.length) (Q1 _ _ _ (by omega)) (λj h1 h2=>by rw[Rh _ _ _ _,Ji]) (by omega) (by simp;omega) (λi w hw=>?_);rw[Rh _ _ _ _];rw[OQ]at hw;split at hw
  .next br=>obtain⟨y,y1,y2⟩:=R.NR i w hw;exact⟨y,by rw[qj,qj];exact y1,y2⟩
  .next br=>have aj:=(Dq.1 hw).1;simp at aj;rw[List.getElem?_reverse (by simp;omega)]at hw;simp only[q7,IP,M9]at hw;obtain⟨f,hf,rfl⟩:=hw;obtain⟨x,x1,x2⟩:=hx _ f hf;refine⟨x,?_,x2⟩;rw[qj,Ji,show s.low+s.half-1-i-(s.top-xs.length)=fs.length-1-(i-st.length) by omega];exact x1
end Ab
end
section
namespace Ab
open Classical in
noncomputable def ask (hf k:Nat) (A:Ma) (f:Ma->Option (Except Nat Ma)):Option (Except Nat Ma):=if Fits hf A k then f A else some (.error 4)
def Ml (st:List Wd) (c:Nat):List Wd:=st.take (st.length-c)
def NC (A:Ma):Option (Except Nat Ma):=some (.ok A)
noncomputable def Ma.N5 (hf:Nat) (v:Int) (A:Ma):Option (Except Nat Ma):=ask hf 3 A λA=>NC { A with h:=A.h++[.num v],st:=A.st++[.ad A.h.length] }
noncomputable def Ma.SU (hf:Nat) (nd:List Nat->Nd) (c:Nat) (A:Ma):Option (Except Nat Ma):=ask hf (c+2) A λA=>
 match O0 A.st c with
 |none=>none
 |some fs=>NC { A with h:=A.h++[nd fs],st:=Ml A.st c++[.ad A.h.length] }
noncomputable def Ma.Ty (hf t c:Nat) (A:Ma):Option (Except Nat Ma):=if t<=1000000000/\c<4096 then A.SU hf (.data t) c else none
noncomputable def Ma.UW (hf b c:Nat) (A:Ma):Option (Except Nat Ma):=if b<=1000000000/\c<4096 then A.SU hf (.Jb b) c else none
noncomputable def Ma.hold (hf b c:Nat) (A:Ma):Option (Except Nat Ma):=if b<=1000000000/\c<4096 then ask hf (c+2) A λA=>NC { A with h:=A.h++[.Jb b (List.replicate c A.h.length)],st:=A.st++[.ad A.h.length] }else none
noncomputable def Ma.Rk (hf:Nat) (w:Ma->Option Wd) (A:Ma):Option (Except Nat Ma):=ask hf 1 A λA=>
 match w A with
 |none=>none
 |some w=>NC { A with st:=A.st++[w] }
def Ma.slot (A:Ma) (k:Nat):Option Wd:=if 0<=A.below then A.st[A.below.toNat+k]? else none
def Ma.fill (k c:Nat) (A:Ma):Option (Except Nat Ma):=
 match A.slot k with
 |some (.ad a)=>
  match A.h[a]? with
  |some (.Jb b fs)=>if fs.length=c then(match O0 A.st c with|none=>none|some gs=>NC { A with h:=A.h.set a (.Jb b gs),st:=Ml A.st c })else none
  |_=>none
 |_=>none
def Ma.NG (c:Nat) (A:Ma):Option Ma:=if 0<=A.below/\A.below.toNat+c<=A.st.length then some { A with st:=A.st.take A.below.toNat++A.st.drop (A.st.length-c) }else none
def Ma.OY (A:Ma) (d:Nat):Option (Except Nat Int):=
 if d<A.st.length then
  match A.st[A.st.length-1-d]? with
  |some (.ad a)=>
   match A.h[a]? with
   |some (.num v)=>some (.ok v)
   |some (.data _ _)=>some (.error 3)
   |some (.Jb _ _)=>some (.error 3)
   |_=>none
  |_=>none
 else none
noncomputable def Ma.Zq (hf:Nat) (b:Bool) (A:Ma):Option (Except Nat Ma):=A.SU hf (λ_=>.data (if b then 2 else 1) []) 0
noncomputable def Ma.calc (hf:Nat) (sg:ByteArray) (l r:Int) (A:Ma):Option (Except Nat Ma):=
 if sg=⟨#[43]⟩then A.N5 hf (IntKind.i64.wrap (l+r))else
 if sg=⟨#[45]⟩then A.N5 hf (IntKind.i64.wrap (l-r))else
 if sg=⟨#[42]⟩then A.N5 hf (IntKind.i64.wrap (l*r))else
 if sg=⟨#[47]⟩then(if r=0 then some (.error 3)else A.N5 hf (IntKind.i64.wrap (Int.tdiv l r)))else
 if sg=⟨#[60]⟩then A.Zq hf (decide (l<r))else
 if sg=⟨#[61,61]⟩then A.Zq hf (decide (l=r))else none
noncomputable def Ma.compute (hf:Nat) (sg:ByteArray) (A:Ma):Option (Except Nat Ma):=
 match A.OY 0 with
 |none=>none
 |some (.error k)=>some (.error k)
 |some (.ok r)=>
  match A.OY 1 with
  |none=>none
  |some (.error k)=>some (.error k)
  |some (.ok l)=>Ma.calc hf sg l r { A with st:=Ml A.st 2 }
noncomputable def Ma.Qn (hf a b:Nat) (fs:List Nat) (A:Ma):Option (Except Nat Ma):=ask hf (1+fs.length) A λA=>NC { A with h:=A.h.set a .busy,st:=A.st++[.mk 0 0]++(fs.map Wd.ad).reverse,next:=b }
noncomputable def Ma.extend (hf b c:Nat) (fs:List Nat) (A:Ma):Option (Except Nat Ma):=ask hf (1+fs.length+c) A λA=>
 if fs.length+c<4096/\1<=c then
  match O0 (Ml A.st 2) c with
  |none=>none
  |some gs=>NC { A with h:=A.h++[.Jb b (fs++gs)],st:=Ml A.st (2+c)++[.ad A.h.length] }
 else none
def leave (st:List Wd) (lk lf:Nat):List Wd:=if lf=0 then st else st.take (st.length-lk)++[.mk 2 lf]++st.drop (st.length-lk)
noncomputable def Ma.call (hf b lk lf:Nat) (fs:List Nat) (A:Ma):Option (Except Nat Ma):=ask hf fs.length A λA=>if 2+lk<=A.st.length/\lf<=1000000 then NC { A with st:=leave (Ml A.st 2) lk lf++(fs.map Wd.ad).reverse,next:=b }else none
noncomputable def Ma.NX (hf:Nat) (sl:List Nat) (c:Nat) (A:Ma):Option (Except Nat (Bool × Ma)):=
 match A.st.getLast? with
 |some (.ad a)=>
  match A.h[a]? with
  |some (.num _)=>some (.error 3)
  |some (.data _ _)=>some (.error 3)
  |some (.Jb b fs)=>
   match sl[b]? with
   |none=>none
   |some n=>if n<fs.length then none else
    if c<n-fs.length then(match A.extend hf b c fs with|none=>none|some (.error k)=>some (.error k)|some (.ok A')=>some (.ok (false,A')))
    else if 2000000<c then none
    else(match A.call hf b (n-fs.length) (c-(n-fs.length)) fs with|none=>none|some (.error k)=>some (.error k)|some (.ok A')=>some (.ok (true,A')))
  |_=>none
 |_=>none
noncomputable def Ma.MZ (hf:Nat) (sl:List Nat):Nat->Ma->Option (Except Nat Ma)
 |0,_=>none
 |g+1,A=>
  if A.st.length<=1 then NC { A with next:=-1 }else
  match A.st[A.st.length-2]? with
  |some (.mk k b)=>
   if 1000000000<=b then none else
   if k=0 then
    match A.st[A.st.length-1]? with
    |some (.ad v)=>
     if 3<=A.st.length then
     match A.st[A.st.length-3]? with
     |some (.ad c)=>
      match A.h[c]?,A.h[v]? with
      |some .busy,some (.num _)=>Ma.MZ hf sl g { A with h:=A.h.set c (.fwd v),st:=Ml A.st 3++[.ad v] }
      |some .busy,some (.data _ _)=>Ma.MZ hf sl g { A with h:=A.h.set c (.fwd v),st:=Ml A.st 3++[.ad v] }
      |some .busy,some (.Jb b fs)=>if(∃n,sl[b]?=some n/\fs.length<n)then Ma.MZ hf sl g { A with h:=A.h.set c (.fwd v),st:=Ml A.st 3++[.ad v] }else none
      |_,_=>none
     |_=>none
     else none
    |_=>none
   else if k=1 then
    match A.st[A.st.length-1]? with
    |some (.ad v)=>NC { A with st:=Ml A.st 2++[.ad v],next:=b }
    |_=>none
   else if k=2 then
    match A.NX hf sl b with
    |none=>none
    |some (.error j)=>some (.error j)
    |some (.ok q)=>if q.1=true then NC q.2 else Ma.MZ hf sl g q.2
   else none
  |_=>none
noncomputable def Ma.enter (hf:Nat) (sl:List Nat) (A:Ma):Option (Except Nat Ma):=
 match A.st.getLast? with
 |some (.ad a)=>
  let A1:Ma:={ A with st:=Ml A.st 1++[.ad (can A.h a)] }
  match A.h[can A.h a]? with
  |some .busy=>some (.error 5)
  |some (.num _)=>A1.MZ hf sl (A.st.length+1)
  |some (.data _ _)=>A1.MZ hf sl (A.st.length+1)
  |some (.Jb b fs)=>
   match sl[b]? with
   |none=>none
   |some n=>if n=fs.length then A1.Qn hf (can A.h a) b fs else if fs.length<n then A1.MZ hf sl (A.st.length+1)else none
  |_=>none
 |_=>none
noncomputable def Ma.OX (hf t:Nat) (fs:List Nat) (A:Ma):List (Nat × Nat × Nat)->Option (Except Nat Ma)
 |[]=>some (.error 3)
 |(u,c,b)::l=>if u=t then(if c=fs.length then ask hf c A λA=>NC { A with st:=Ml A.st 1++(fs.map Wd.ad).reverse,next:=b }else some (.error 3))else Ma.OX hf t fs A l
noncomputable def Ma.choose (hf:Nat) (nA:List (Nat × Nat × Nat)) (A:Ma):Option (Except Nat Ma):=
 match A.st.getLast? with
 |some (.ad a)=>
  match A.h[a]? with
  |some (.data t fs)=>A.OX hf t fs nA
  |some (.num _)=>some (.error 3)
  |some (.Jb _ _)=>some (.error 3)
  |_=>none
 |_=>none
noncomputable def Ma.step (hf:Nat) (sl:List Nat) (A:Ma):Ds->Option (Except Nat Ma)
 |.push k=>A.Rk hf λA=>A.slot k
 |.PM f=>A.Rk hf λA=>(A.fns[f]?).map Wd.ad
 |.num x=>A.N5 hf x
 |.pack t c=>A.Ty hf t c
 |.close b c=>A.UW hf b c
 |.hold b c=>A.hold hf b c
 |.fill k c=>A.fill k c
 |.wait b=>if b<=1000000000 then A.Rk hf λ_=>some (.mk 1 b)else none
 |.N6 c=>if c<=1000000000 then A.Rk hf λ_=>some (.mk 2 c)else none
 |.NG c=>(A.NG c).map .ok
 |.PJ=>(A.OY 0).map λq=>q.map λ_=>A
 |.comp sg=>A.compute hf sg
 |.enter=>A.enter hf sl
 |.jump b=>NC { A with next:=b }
 |.choose nA=>A.choose hf nA
noncomputable def Ma.Nb (hf:Nat) (sl:List Nat):List Ds->Ma->Option (Except Nat Ma)
 |[],A=>NC A
 |i::l,A=>if A.fuel=0 then some (.error 5)else
  match Ma.step hf sl { A with fuel:=A.fuel-1 } i with
  |none=>none
  |some (.error k)=>some (.error k)
  |some (.ok A2)=>Ma.Nb hf sl l A2
noncomputable def Ma.work (hf:Nat) (cd:List (Nat × List Ds)):Nat->Ma->Option (Except Nat Ma)
 |0,_=>none
 |g+1,A=>
  if A.next=-1 then NC A else
  if A.next<0 then none else
  match cd[A.next.toNat]? with
  |none=>none
  |some (n,is)=>
   match Ma.Nb hf (cd.map Prod.fst) is { A with below:=(A.st.length:Int)-n }with
   |none=>none
   |some (.error k)=>some (.error k)
   |some (.ok A2)=>Ma.work hf cd g A2
noncomputable def Ma.NF (hf:Nat):Nat->Nat->Ma->Option (Except Nat Ma)
 |_,0,A=>NC A
 |i,k+1,A=>if i<=1000000000 then ask hf 1 A λA=>Ma.NF hf (i+1) k { A with h:=A.h++[.Jb i []],fns:=A.fns++[A.h.length] }else none
noncomputable def Ma.start (hf:Nat) (sl:List Nat) (nf main:Nat) (A:Ma):Option (Except Nat Ma):=
 match A.NF hf 0 nf with
 |none=>none
 |some (.error k)=>some (.error k)
 |some (.ok A1)=>ask hf 1 A1 λA2=>
  match A2.fns[main]? with
  |none=>none
  |some a=>Ma.enter hf sl { A2 with st:=A2.st++[.ad a] }
def Ma.told (A:Ma):Option (Int × Int × Int × Int):=
 match A.st.getLast? with
 |some (.ad a)=>
  match A.h[a]? with
  |some (.num v)=>some (1,v,0,0)
  |some (.data t fs)=>some (2,0,t,fs.length)
  |some (.Jb _ _)=>some (3,0,0,0)
  |_=>none
 |_=>none
def Ma.new (fuel:Nat):Ma:=⟨[],[],[],fuel,0,0⟩
noncomputable def TF (hf:Nat) (cd:List (Nat × List Ds)) (nf main fuel g:Nat):Option (Int × Int × Int × Int):=
 match(Ma.new fuel).start hf (cd.map Prod.fst) nf main with
 |none=>none
 |some (.error k)=>some (k,0,0,0)
 |some (.ok A1)=>
  match Ma.work hf cd g A1 with
  |none=>none
  |some (.error k)=>some (k,0,0,0)
  |some (.ok A2)=>A2.told
def wg (sl:List Nat) (hf:Nat) (c:Option (Except Nat l0)) (a:Option (Except Nat Ma)):Prop:=∀r,a=some r ->
 match r with
 |.error k=>c=some (.error k)
 |.ok A'=>∃m' φ',c=some (.ok m')/\MR sl hf m' A' φ'
theorem wg.none(sl:List Nat)(hf:Nat)(c:Option (Except Nat l0)):wg sl hf c none:=λ_ h=>by cases h
theorem wg.error(sl:List Nat)(hf k:Nat):wg sl hf (some (.error k)) (some (.error k)):=λ_ h=>by cases h;rfl
theorem wg.ok{sl:List Nat}{hf:Nat}{m:l0}{A:Ma}{φ:Nat->Option Nat}(h:MR sl hf m A φ):wg sl hf (some (.ok m)) (NC A):=λ_ e=>by cases e;exact⟨m,φ,rfl,h⟩
variable {hf k:Nat}{A:Ma}{φ:Nat->Option Nat}
theorem QS{sl:List Nat}{m:l0}(M:MR sl hf m A φ){f:l0->Option (Except Nat l0)}{g:Ma->Option (Except Nat Ma)}(Er:∀m' φ',MR sl hf m' A φ'->m'.s.free+k<=m'.s.top->m'.o=m.o->wg sl hf (f m') (g A)):wg sl hf (Nj (m.M8 k) f) (ask hf k A g):=by
 unfold ask Nj;rcases zvU (k:=k) M with⟨h1,m',φ',h2,h3,h4,h5⟩|⟨h1,h2⟩
 .rw[nB h1,h2];exact Er m' φ' h3 h4 h5
 .rw[pL h1,h2];exact wg.error _ _ _
end Ab
end
section
namespace Sf
open Ab
def Ok (r:Option (Except Nat Ma)) (P:Ma->Prop):Prop:=(∃j,r=some (.error j))\/∃A,r=some (.ok A)/\P A
variable {A:Ma}{P:Ma->Prop}
theorem Ok.done(h:P A):Ok (NC A) P:=.inr ⟨A,rfl,h⟩
theorem Ok.mono{r:Option (Except Nat Ma)}{Q:Ma->Prop}(h:Ok r P)(k:∀A,P A->Q A):Ok r Q:=by
 rcases h with h|⟨A,h,p⟩
 .exact .inl h
 .exact .inr ⟨A,h,k A p⟩
variable {hf k:Nat}
theorem SF{f:Ma->Option (Except Nat Ma)}(h:Ok (f A) P):Ok (Ab.ask hf k A f) P:=by
 unfold Ab.ask;split
 .exact h
 .exact .inl ⟨4,rfl⟩
theorem zwO{A1:Ma}{f:Ma->Option (Except Nat Ma)}(h:f A=NC A1):Ab.ask hf k A f=some (.error 4)\/Ab.ask hf k A f=NC A1:=by
 unfold Ab.ask;split
 .exact .inr h
 .exact .inl rfl
def Ad (h:List Nd) (w:Wd):Prop:=∃a,w=.ad a/\a<h.length
structure Sys where
 hf:Nat
 sl:List Nat
 nf:Nat
 RB:List Nd->List Wd->Nat->Prop
 CB:Nat->Nat->Prop
 cb:∀b n,CB b n->sl[b]?=some n/\n<4096/\∀h F,F.length=n->(∀w∈F,Ad h w)->RB h F b
variable {Y:Sys} {h h':List Nd} {A:Ma} {S:List Wd} {B:List Nat}
def Vd (sl:List Nat) (h:List Nd) (a:Nat):Prop:=∃nd,h[a]?=some nd/\val sl nd
def Gv (Y:Sys) (h h':List Nd):Prop:=h.length<=h'.length/\∀a,Vd Y.sl h a->Vd Y.sl h' a
def NT (Y:Sys) (h:List Nd):Nd->Prop
 |.num _=>True
 |.data _ fs=>∀f∈fs,f<h.length
 |.Jb b fs=>(∀f∈fs,f<h.length)/\∃n,fs.length<=n/\Y.CB b n
 |.busy=>True
 |.fwd b=>Vd Y.sl h b
def HT (Y:Sys) (h:List Nd):Prop:=∀(a:Nat)(nd:Nd),h[a]?=some nd->NT Y h nd
variable {w:Wd}
theorem Ad.up(k:Ad h w)(l:h.length<=h'.length):Ad h' w:=by obtain⟨a,e,k⟩:=k;exact⟨a,e,by omega⟩
theorem Gv.refl(h:List Nd):Gv Y h h:=⟨qP _,λ_ k=>k⟩
theorem Gv.trans{h2:List Nd}(g:Gv Y h h')(k:Gv Y h' h2):Gv Y h h2:=⟨yM g.1 k.1,λa p=>k.2 a (g.2 a p)⟩
variable {nd:Nd}
theorem NT.up(g:Gv Y h h')(k:NT Y h nd):NT Y h' nd:=by
 cases nd with
 |num v=>exact k
 |data t fs=>exactλf hf=>Kl (k f hf) g.1
 |Jb b fs=>exact⟨λf hf=>Kl (k.1 f hf) g.1,k.2⟩
 |busy=>exact k
 |fwd b=>exact g.2 b k
theorem Gv.app(nd:Nd):Gv Y h (h++[nd]):=⟨by simp,λa⟨n,k1,k2⟩=>⟨n,by rw[Pq (Dq.1 k1).1];exact k1,k2⟩⟩
theorem Gv.set{a:Nat}{o nd:Nd}(k:h[a]?=some o)(kv:val Y.sl o->val Y.sl nd):Gv Y h (h.set a nd):=by
 refine⟨by simp,λc⟨n,k1,k2⟩=>?_⟩;by_cases e:a=c
 .subst e;rw[k]at k1;cases k1;exact⟨nd,by rw[Kw,nB rfl,nB (Dq.1 k).1],kv k2⟩
 .exact⟨n,by rw[Kw,pL e];exact k1,k2⟩
theorem HT.app(k:HT Y h){nd:Nd}(kn:NT Y (h++[nd]) nd):HT Y (h++[nd]):=by
 intro a n e;rw[OQ]at e;split at e
 .exact(k a n e).up (Gv.app nd)
 .have:=ML e;rw[NA]at this;subst this;exact kn
theorem HT.set(k:HT Y h){a:Nat}{nd:Nd}(g:Gv Y h (h.set a nd))(kn:NT Y (h.set a nd) nd):HT Y (h.set a nd):=by
 intro c n e;rw[Kw]at e;split at e
 .split at e
  .cases e;exact kn
  .cases e
 .exact(k c n e).up g
inductive K (Y:Sys) (h:List Nd):List Wd->List Nat->Prop
 |nil:K Y h [] []
 |XG {S:List Wd} {B:List Nat} {c:Nat}:K Y h S B->K Y h (S++[.ad c,.mk 0 0]) (c::B)
 |wait {S F:List Wd} {B:List Nat} {b:Nat}:K Y h S B->b<1000000000->(∀h' v,Gv Y h h'->Vd Y.sl h' v->Y.RB h' (F++[.ad v]) b)->K Y h (S++(F++[.mk 1 b])) B
 |args {S ws:List Wd} {B:List Nat}:K Y h S B->(∀w∈ws,Ad h w)->1<=ws.length->ws.length<=1300->K Y h (S++(ws++[.mk 2 ws.length])) B
theorem K.up(g:Gv Y h h')(k:K Y h S B):K Y h' S B:=by
 induction k with
 |nil=>exact .nil
 |XG _ ih=>exact .XG ih
 |wait _ hb hr ih=>exact .wait ih hb (λh2 v g2 hv=>hr h2 v (g.trans g2) hv)
 |args _ hw h1 h2 ih=>exact .args ih (λw hm=>(hw w hm).up g.1) h1 h2
def BZ (h:List Nd) (B:List Nat):Prop:=B.Nodup/\∀c∈B,h[c]?=some .busy
def Good (Y:Sys) (A:Ma):Prop:=HT Y A.h/\A.fns=List.range Y.nf/\Y.nf<=A.h.length
def Cf (Y:Sys) (A:Ma):Prop:=Good Y A/\∃S B F,A.st=S++F/\K Y A.h S B/\BZ A.h B/\((∃b:Nat,A.next=b/\Y.RB A.h F b)\/(A.next=-1/\∃v,F=[.ad v]/\Vd Y.sl A.h v))
theorem zwM:∀{ws:List Wd},(∀w∈ws,Ad h w)->∃fs:List Nat,ws=(fs.map Wd.ad).reverse/\fs.length=ws.length/\∀f∈fs,f<h.length
 |[],_=>⟨[],rfl,rfl,by simp⟩
 |w::ws,k=>by
  obtain⟨a,rfl,ha⟩:=k w (by simp);obtain⟨fs,rfl,_,e3⟩:=zwM (ws:=ws) (λx hx=>k x (by simp[hx]));refine⟨fs++[a],by simp,by simp,λf hf=>?_⟩;rcases Ni.1 hf with hf|hf
  .exact e3 f hf
  .rw[NA.1 hf];exact ha
theorem zqh:∀(fs:List Nat),TE (fs.map Wd.ad)=some fs
 |[]=>rfl
 |f::fs=>by rw[Ki,TE,zqh fs];rfl
theorem Sy(st ws:List Wd):Ml (st++ws) ws.length=st:=by unfold Ml;rw[show(st++ws).length-ws.length=st.length by simp,List.take_left]
theorem zm9(st:List Wd){ws:List Wd}(k:∀w∈ws,Ad h w):∃fs,O0 (st++ws) ws.length=some fs/\fs.length=ws.length/\∀f∈fs,f<h.length:=by obtain⟨fs,e1,e2,e3⟩:=zwM k;refine⟨fs,?_,e2,e3⟩;unfold O0;rw[nB (by simp),show(st++ws).length-ws.length=st.length by simp,List.drop_left,e1,List.reverse_reverse];exact zqh fs
variable {fs:List Nat}
theorem zte(k:∀f∈fs,f<h.length):∀w∈(fs.map Wd.ad).reverse,Ad h w:=λw hw=>by rw[List.mem_reverse,Ro]at hw;obtain⟨f,hf,rfl⟩:=hw;exact⟨f,rfl,k f hf⟩
theorem TT:∀(g:Nat){S:List Wd}{B:List Nat}{v:Nat}{A:Ma},A.st=S++[.ad v]->S.length<g->K Y A.h S B->BZ A.h B->Vd Y.sl A.h v->Good Y A->Ok (A.MZ Y.hf Y.sl g) λA'=>Cf Y A'/\A'.fuel=A.fuel
 |0,_,_,_,_,_,hg,_,_,_,_=>by omega
 |g+1,S,B,v,A,hs,hg,hK,hB,hv,hG=>by
  rw[Ma.MZ];cases hK with
  |nil=>rw[nB (by rw[hs];simp)];exact .done ⟨⟨hG,[],[],[.ad v],hs,.nil,hB,.inr ⟨rfl,v,rfl,hv⟩⟩,rfl⟩
  |@XG S B c hK=>
   have hl:A.st.length=S.length+3:=by rw[hs];simp
   have e1:A.st[A.st.length-1]?=some (.ad v):=by rw[hl,hs,Om (by simp)];simp
   have e2:A.st[A.st.length-2]?=some (.mk 0 0):=by rw[hl,hs,Np,Om (by omega),show S.length+3-2-S.length=1 by omega];rfl
   have e3:A.st[A.st.length-3]?=some (.ad c):=by rw[hl,hs,Np,Om (by omega),show S.length+3-3-S.length=0 by omega];rfl
   have e4:Ml A.st 3=S:=by rw[hs,Np];exact Sy S [.ad c,.mk 0 0,.ad v]
   have hc:=hB.2 c (by simp);have eZ:=Wl.1 hB.1;have ie:Gv Y A.h (A.h.set c (.fwd v)):=Gv.set hc (λe=>e.elim);rw[qj,e2];simp only;rw[qj,nB trivial,e1];simp only;rw[Ji,e3,e4];simp only;have ih:=TT g (S:=S) (B:=B) (v:=v) (A:={ A with h:=A.h.set c (.fwd v),st:=S++[.ad v] }) rfl (by simp at hg;omega) (hK.up ie) ⟨eZ.2,λd hd=>by show(A.h.set c _)[d]?=_;rw[Kw,pL (λe=>eZ.1 (by rw[e];exact hd))];exact hB.2 d (by simp[hd])⟩ (ie.2 v hv) ⟨hG.1.set ie (ie.2 v hv),hG.2.1,yM hG.2.2 ie.1⟩
   obtain⟨nd,n1,n2⟩:=hv;rw[hc,n1];cases nd with
   |num x=>exact ih
   |data t fs=>exact ih
   |Jb b fs=>simp only;rw[nB (show∃n,Y.sl[b]?=some n/\fs.length<n from n2)];exact ih
   |busy=>exact n2.elim
   |fwd a=>exact n2.elim
  |@wait S F B b hK hb hr=>
   have hl:A.st.length=(S++F).length+2:=by rw[hs];simp;omega
   have e0:A.st=(S++F)++[.mk 1 b,.ad v]:=by rw[hs];simp
   have e1:A.st[A.st.length-1]?=some (.ad v):=by rw[hl,e0,Om (by omega),show(S++F).length+2-1-(S++F).length=1 by omega];rfl
   have e2:A.st[A.st.length-2]?=some (.mk 1 b):=by rw[hl,e0,Om (by omega),show(S++F).length+2-2-(S++F).length=0 by omega];rfl
   have e4:Ml A.st 2=S++F:=by rw[e0];exact Sy (S++F) [.mk 1 b,.ad v]
   rw[qj,e2];simp only;rw[qj,qj,nB trivial,e1,e4];exact .done ⟨⟨hG,S,B,F++[.ad v],by simp,hK,hB,.inl ⟨b,rfl,hr _ v (Gv.refl _) hv⟩⟩,rfl⟩
  |@args S ws B hK hw h1 h2=>
   have hl:A.st.length=(S++ws).length+2:=by rw[hs];simp;omega
   have e0:A.st=(S++ws)++[.mk 2 ws.length,.ad v]:=by rw[hs];simp
   have e2:A.st[A.st.length-2]?=some (.mk 2 ws.length):=by rw[hl,e0,Om (by omega),show(S++ws).length+2-2-(S++ws).length=0 by omega];rfl
   have e4:Ml A.st 2=S++ws:=by rw[e0];exact Sy (S++ws) [.mk 2 ws.length,.ad v]
   have e5:Ml A.st (2+ws.length)=S:=by
    rw[e0,Np];have:=Sy S (ws++[.mk 2 ws.length,.ad v])
    rwa [IJ,Kf]at this
   rw[qj,e2];simp only;rw[qj,qj,qj,nB trivial];unfold Ma.NX;rw[show A.st.getLast?=some (.ad v) by rw[hs];simp];simp only;obtain⟨nd,n1,n2⟩:=hv;have mR:=hG.1 v nd n1;rw[n1];cases nd with
   |num x=>exact .inl ⟨3,rfl⟩
   |data t fs=>exact .inl ⟨3,rfl⟩
   |busy=>exact n2.elim
   |fwd a=>exact n2.elim
   |Jb b fs=>
    obtain⟨n,m1,m2⟩:=n2;obtain⟨t1,n',t2,t3⟩:=mR;obtain⟨c1,c2,c3⟩:=Y.cb b n' t3;rw[m1]at c1;cases c1;simp only;rw[m1];simp only;rw[qj];by_cases aj:ws.length<n-fs.length
    .rw[nB aj];obtain⟨gs,g1,g2,g3⟩:=zm9 S hw;have hx:A.extend Y.hf b ws.length fs=some (.error 4)\/A.extend Y.hf b ws.length fs=NC { A with h:=A.h++[.Jb b (fs++gs)],st:=S++[.ad A.h.length] }:=by
      unfold Ma.extend;refine zwO ?_;rw[nB ⟨by omega,h1⟩,e4,g1,e5]
     rcases hx with hx|hx
     .rw[hx];exact .inl ⟨4,rfl⟩
     .rw[hx];have ie:Gv Y A.h (A.h++[.Jb b (fs++gs)]):=Gv.app _;exact TT g (S:=S) (B:=B) (v:=A.h.length) (A:={ A with h:=A.h++[.Jb b (fs++gs)],st:=S++[.ad A.h.length] }) rfl (by simp at hg;omega) (hK.up ie) ⟨hB.1,λd hd=>by
       show(A.h++_)[d]?=_;rw[Pq (Dq.1 (hB.2 d hd)).1];exact hB.2 d hd⟩ ⟨.Jb b (fs++gs),by simp,n,m1,by simp;omega⟩ ⟨hG.1.app ⟨λf hf=>by
        simp only[IJ,Ng];rcases Ni.1 hf with hf|hf
        .have:=t1 f hf;omega
        .have:=g3 f hf;omega,n,by simp;omega,t3⟩,hG.2.1,yM hG.2.2 ie.1⟩
    .rw[pL aj,qj];have hx:A.call Y.hf b (n-fs.length) (ws.length-(n-fs.length)) fs=some (.error 4)\/A.call Y.hf b (n-fs.length) (ws.length-(n-fs.length)) fs=NC { A with st:=leave (S++ws) (n-fs.length) (ws.length-(n-fs.length))++(fs.map Wd.ad).reverse,next:=b }:=by
      unfold Ma.call;refine zwO ?_;rw[nB ⟨by rw[hl];simp;omega,by omega⟩,e4]
     rcases hx with hx|hx
     .rw[hx];exact .inl ⟨4,rfl⟩
     .rw[hx];simp only[NC,kP];refine .done ⟨⟨hG,?_⟩,rfl⟩;have jX:=zte t1;by_cases hz:ws.length-(n-fs.length)=0
      .refine⟨S,B,ws++(fs.map Wd.ad).reverse,by simp[leave,hz],hK,hB,.inl ⟨b,rfl,c3 _ _ (by simp;omega) (λw hm=>?_)⟩⟩;rcases Ni.1 hm with hm|hm
       .exact hw w hm
       .exact jX w hm
      .have hlen:(ws.take (ws.length-(n-fs.length))).length=ws.length-(n-fs.length):=by simp
       refine⟨S++(ws.take (ws.length-(n-fs.length))++[.mk 2 (ws.take (ws.length-(n-fs.length))).length]),B,ws.drop (ws.length-(n-fs.length))++(fs.map Wd.ad).reverse,?_,K.args hK (λw hm=>hw w (XK hm)) (by omega) (by omega),hB,.inl ⟨b,rfl,c3 _ _ (by simp;omega) (λw hm=>?_)⟩⟩
       .simp only[leave,pL hz];rw[hlen,show(S++ws).length-(n-fs.length)=S.length+(ws.length-(n-fs.length)) by simp;omega,List.take_length_add_append,List.drop_length_add_append];simp
       .rcases Ni.1 hm with hm|hm
        .exact hw w (List.mem_of_mem_drop hm)
        .exact jX w hm
theorem enter{a:Nat}(hs:A.st=S++[.ad a])(ha:a<A.h.length)(hK:K Y A.h S B)(hB:BZ A.h B)(hG:Good Y A):Ok (A.enter Y.hf Y.sl) λA'=>Cf Y A'/\A'.fuel=A.fuel:=by
 have hcut:Ml A.st 1=S:=by rw[hs];exact Sy S [.ad a]
 have jH:∀c,Vd Y.sl A.h c->Ok (Ma.MZ Y.hf Y.sl (A.st.length+1) { A with st:=S++[.ad c] }) λA'=>Cf Y A'/\A'.fuel=A.fuel:=λc hc=>TT _ (A:={ A with st:=S++[.ad c] }) rfl (by rw[hs];simp;omega) hK hB hc hG
 have eZ:A.h[a]?=some A.h[a]:=Iv ha;unfold Ma.enter;rw[show A.st.getLast?=some (.ad a) by rw[hs];simp];simp only;rw[hcut];generalize hn:A.h[a]=nd at eZ;have mR:=hG.1 a nd eZ;cases nd with
 |fwd b=>
  rw[UL eZ];obtain⟨nd,n1,n2⟩:=mR;have hg:=jH b ⟨nd,n1,n2⟩;rw[n1];cases nd with
  |num x=>exact hg
  |data t fs=>exact hg
  |busy=>exact n2.elim
  |fwd a=>exact n2.elim
  |Jb c fs=>obtain⟨n,m1,m2⟩:=n2;simp only;rw[m1];simp only;rw[qj,nB m2];exact hg
 |num x=>rw[Uy eZ rfl,eZ];exact jH a ⟨_,eZ,trivial⟩
 |data t fs=>rw[Uy eZ rfl,eZ];exact jH a ⟨_,eZ,trivial⟩
 |busy=>rw[Uy eZ rfl,eZ];exact .inl ⟨5,rfl⟩
 |Jb b fs=>
  rw[Uy eZ rfl,eZ];obtain⟨t1,n,t2,t3⟩:=mR;obtain⟨c1,c2,c3⟩:=Y.cb b n t3;simp only;rw[c1];simp only;by_cases aj:n=fs.length
  .rw[nB aj];unfold Ma.Qn;refine SF (.done ⟨?_,rfl⟩);have ie:Gv Y A.h (A.h.set a .busy):=Gv.set eZ (λ⟨m,e1,e2⟩=>by rw[c1]at e1;cases e1;omega);refine⟨⟨hG.1.set ie trivial,hG.2.1,yM hG.2.2 ie.1⟩,S++[.ad a,.mk 0 0],a::B,(fs.map Wd.ad).reverse,by simp,(hK.up ie).XG,⟨Wl.2 ⟨λhm=>?_,hB.1⟩,λd hd=>?_⟩,.inl ⟨b,rfl,c3 _ _ (by simp[aj]) (zte λf hf=>Kl (t1 f hf) ie.1)⟩⟩
   .have:=hB.2 a hm;rw[eZ]at this;cases this
   .simp only;rw[Kw];split
    .rfl
    .next e=>
     rcases Mz.1 hd with e'|hd
     .exact absurd e'.symm e
     .exact hB.2 d hd
  .rw[pL aj,Ji];exact jH a ⟨_,eZ,n,c1,by omega⟩
end Sf
end
section
namespace Sf
open Cp (Nm)
open Ab
structure Cx where
 hf:Nat
 cd:List (Nat × List Ds)
 fns:List Nm
 N:Nat
abbrev Cx.sl (X:Cx):List Nat:=X.cd.map Prod.fst
abbrev Cx.fr (X:Cx):Ex->List Nm:=Cp.free X.N
abbrev Cx.wk (X:Cx) (n:Nat):Ex->Nat->Bs->Bs:=Cp.work (Cp.free X.N) X.fns n
noncomputable abbrev Cx.ri (X:Cx) (is:List Ds) (A:Ma):Option (Except Nat Ma):=Ma.Nb X.hf X.sl is A
def PB (X:Cx) (bl:List (Nat × List Ds)):Prop:=∀(j:Nat)(b:Nat × List Ds),X.fns.length<=j->bl[j]?=some b->X.cd[j]?=some b
def Kn (X:Cx) (l kD:List Nm):Prop:=∀x∈l,x≠[]/\(x∈kD\/x∈X.fns)
def Wq (X:Cx) (m:Nat) (e:Ex) (below:Nat) (q:Bs):Prop:=Dp m e/\m<=X.N/\Cp.wt X.N e<=1300/\X.fns.length<=q.blocks.length/\PB X (X.wk m e below q).blocks/\Kn X (X.fr e) q.kD
def Cl (X:Cx) (n:Nat) (is:List Ds):Prop:=(∃m e q,Wq X m e 0 q/\q.code=[]/\q.kD.length=n/\is=(X.wk m e 0 q).code)\/∃t,t<=1000/\is=[.pack t n,.enter]
def CB (X:Cx) (b n:Nat):Prop:=n<4096/\∃is,X.cd[b]?=some (n,is)/\Cl X n is
def RB (X:Cx) (h:List Nd) (F:List Wd) (b:Nat):Prop:=∃is,X.cd[b]?=some (F.length,is)/\(
 (Cl X F.length is/\F.length<4096/\∀w∈F,Ad h w) \/
 (∃F0 v m r q b2 sg,∃ns:List Nm,F=F0++[.ad v]/\Vd X.sl h v/\(∀w∈F0,Ad h w)/\Wq X m r 2 q/\q.code=[.PJ,.push F0.length,.wait b2]/\ns.length=F0.length/\q.kD=ns++[[],[],[]]/\is=(X.wk m r 2 q).code/\X.cd[b2]?=some (2,[.comp ⟨⟨sg⟩⟩,.enter])/\sg∈Th.MM) \/
 (∃l r sg,F=[.ad l,.ad r]/\Vd X.sl h l/\Vd X.sl h r/\is=[.comp ⟨⟨sg⟩⟩,.enter]/\sg∈Th.MM) \/
 ∃F0 v nA,F=F0++[.ad v]/\Vd X.sl h v/\(∀w∈F0,Ad h w)/\is=[.choose nA]/\∀o∈nA,CB X o.2.2 (F0.length+o.2.1))
abbrev Cx.sys (X:Cx):Sys:=⟨X.hf,X.sl,X.fns.length,RB X,CB X,λb n⟨h1,is,h2,h3⟩=>⟨by rw[List.getElem?_map,h2];rfl,h1,λh F hl hw=>⟨is,by rw[hl];exact h2,.inl ⟨by rw[hl];exact h3,by omega,hw⟩⟩⟩⟩
variable {X:Cx} {h h':List Nd} {A A':Ma} {base F ws:List Wd} {kD more:List Nm} {q:Bs} {n:Nat} {e:Ex}{bl:List (Nat × List Ds)}
theorem PB.pre{more:List (Nat × List Ds)}(k:PB X (bl++more)):PB X bl:=λj b hj hb=>k j b hj (by rw[Pq (Dq.1 hb).1];exact hb)
theorem PB.ext{q':Bs}(k:PB X q'.blocks)(he:Ext q q'):PB X q.blocks:=by obtain⟨⟨bl,e,_⟩,_⟩:=he;rw[e]at k;exact k.pre
theorem RT{q':Bs}(he:Ext q q')(hq:X.fns.length<=q.blocks.length):X.fns.length<=q'.blocks.length:=by obtain⟨⟨bl,e,_⟩,_⟩:=he;rw[e];simp;omega
variable {l:List Nm}
theorem Kn.sub{l':List Nm}(k:Kn X l kD)(hs:∀x∈l',x∈l):Kn X l' kD:=λx hx=>k x (hs x hx)
theorem Kn.app(k:Kn X l kD)(more:List Nm):Kn X l (kD++more):=λx hx=>⟨(k x hx).1,(k x hx).2.imp_left λp=>by simp[p]⟩
theorem Kn.held{l':List Nm}(k:Kn X l kD){out:List Nm}(ho:∀x∈l',x ∉ out->x∈l)(hn:∀x∈out,x≠[]){s':List Nm}(h1:∀x∈out,x∈s')(h2:∀x∈Il kD l,x∈s'):Kn X l' s':=λx hx=>by
 by_cases yi:x∈out
 .exact⟨hn x yi,.inl (h1 x yi)⟩
 .have hl:=ho x hx yi;exact⟨(k x hl).1,(k x hl).2.imp_left λp=>h2 x (Qk.2 ⟨hl,p⟩)⟩
variable {P:Ma->Prop}
theorem OI{a b:List Ds}:∀{A:Ma},Ok (X.ri a A) (λA'=>Ok (X.ri b A') P)->Ok (X.ri (a++b) A) P:=by
 induction a with
 |nil=>
  intro A k;rcases k with⟨j,e⟩|⟨A',e,k⟩
  .cases e
  .cases e;exact k
 |cons i a ih=>
  intro A k;show Ok (Ma.Nb X.hf X.sl (i::(a++b)) A) P;have k':Ok (Ma.Nb X.hf X.sl (i::a) A) (λA'=>Ok (X.ri b A') P):=k;rw[Ma.Nb]at k'|-;split
  .exact .inl ⟨5,rfl⟩
  .next h0=>
   rw[pL h0]at k';cases hs:Ma.step X.hf X.sl { A with fuel:=A.fuel-1 } i with
   |none=>rw[hs]at k';rcases k' with⟨j,e⟩|⟨A',e,_⟩<;>cases e
   |some r=>
    cases r with
    |error j=>exact .inl ⟨j,rfl⟩
    |ok A2=>rw[hs]at k';exact ih k'
theorem Pm{i:Ds}(k:A.fuel≠0->Ok (Ma.step X.hf X.sl { A with fuel:=A.fuel-1 } i) P):Ok (X.ri [i] A) P:=by
 show Ok (Ma.Nb X.hf X.sl [i] A) P;rw[Ma.Nb];split
 .exact .inl ⟨5,rfl⟩
 .next h0=>
  rcases k h0 with⟨j,e⟩|⟨A',e,p⟩
  .rw[e];exact .inl ⟨j,rfl⟩
  .rw[e];exact .done p
def sh:Nd->Nd
 |.Jb b fs=>.Jb b (List.replicate fs.length 0)
 |nd=>nd
def G (h h':List Nd):Prop:=∀(a:Nat)(nd:Nd),h[a]?=some nd->∃nd',h'[a]?=some nd'/\sh nd'=sh nd
theorem G.refl(h:List Nd):G h h:=λ_ nd k=>⟨nd,k,rfl⟩
theorem G.trans{h2:List Nd}(g:G h h')(k:G h' h2):G h h2:=λa nd e=>by obtain⟨n1,e1,e2⟩:=g a nd e;obtain⟨n2,f1,f2⟩:=k a n1 e1;exact⟨n2,f1,f2.trans e2⟩
theorem G.app(nd:Nd):G h (h++[nd]):=λa n e=>⟨n,by rw[Pq (Dq.1 e).1];exact e,rfl⟩
variable {nd:Nd}{b:Nat}{fs:List Nat}
theorem zt4(e:sh nd=sh (.Jb b fs)):∃gs,nd=.Jb b gs/\gs.length=fs.length:=by
 cases nd with
 |Jb c gs=>simp only[sh,Nd.Jb.injEq]at e;have:=qz List.length e.2;simp at this;exact⟨gs,by rw[e.1],this⟩
 |_=>simp[sh]at e
theorem zyy{nd':Nd}(e:sh nd'=sh nd)(hn:∀b fs,nd≠.Jb b fs:=by simp):nd'=nd:=by
 cases nd with
 |Jb b fs=>exact absurd rfl (hn b fs)
 |_=>cases nd'<;>simp[sh]at e|-<;>exact e
theorem G.len(g:G h h'):h.length<=h'.length:=by
 rcases Rs h'.length h.length with k|k
 .obtain⟨nd,e,_⟩:=g h'.length _ (Iv k);have:=(Dq.1 e).1;omega
 .exact k
theorem G.gv{Y:Sys}(g:G h h'):Gv Y h h':=⟨g.len,λa⟨nd,e,v⟩=>by
 obtain⟨n',e1,e2⟩:=g a nd e;refine⟨n',e1,?_⟩;cases nd with
 |Jb b fs=>obtain⟨gs,rfl,hl⟩:=zt4 e2;obtain⟨m,m1,m2⟩:=v;exact⟨m,m1,by omega⟩
 |_=>rw[zyy e2];exact v⟩
theorem G.bz{B:List Nat}(g:G h h')(k:BZ h B):BZ h' B:=⟨k.1,λc hc=>by obtain⟨n',e1,e2⟩:=g c _ (k.2 c hc);rw[e1,zyy e2]⟩
def FO (h:List Nd) (kD:List Nm) (F:List Wd):Prop:=F.length=kD.length/\∀(i:Nat)(x:Nm),kD[i]?=some x->x≠[]->∃w,F[i]?=some w/\Ad h w
theorem FO.app{F':List Wd}(k:FO h kD F)(k':FO h more F'):FO h (kD++more) (F++F'):=by
 refine⟨by simp[k.1,k'.1],λi x hx hn=>?_⟩;rw[OQ]at hx;split at hx
 .next hi=>obtain⟨w,w1,w2⟩:=k.2 i x hx hn;exact⟨w,by rw[Pq (by rw[k.1];exact hi)];exact w1,w2⟩
 .next hi=>obtain⟨w,w1,w2⟩:=k'.2 _ x hx hn;exact⟨w,by rw[Om (by rw[k.1];omega),k.1];exact w1,w2⟩
variable {k:Nat}
theorem FO.none(h:List Nd)(hk:ws.length=k):FO h (List.replicate k []) ws:=⟨by simp[hk],λi x hx hn=>absurd (VP (ML hx)) hn⟩
theorem FO.all(hl:F.length=kD.length)(hw:∀w∈F,Ad h w):FO h kD F:=⟨hl,λi x hx _=>by have:=(Dq.1 hx).1;exact⟨F[i],Iv (by omega),hw _ (by simp)⟩⟩
theorem FO.up(k:FO h kD F)(l:h.length<=h'.length):FO h' kD F:=⟨k.1,λi x hx hn=>by obtain⟨w,w1,w2⟩:=k.2 i x hx hn;exact⟨w,w1,w2.up l⟩⟩
structure Ru (X:Cx) (A:Ma) (kD:List Nm) (base F:List Wd):Prop where
 st:A.st=base++F
 below:A.below=base.length
 Kt:Good X.sys A
 fo:FO A.h kD F
structure Nx (X:Cx) (A A':Ma) (ws:List Wd):Prop where
 st:A'.st=A.st++ws
 below:A'.below=A.below
 Kt:Good X.sys A'
 g:G A.h A'.h
 fuel:A'.fuel<=A.fuel
theorem Nx.trans{A2:Ma}{vs:List Wd}(k:Nx X A A' ws)(l:Nx X A' A2 vs):Nx X A A2 (ws++vs):=⟨by rw[l.st,k.st,Np],l.below.trans k.below,l.Kt,k.g.trans l.g,yM l.fuel k.fuel⟩
theorem Ru.next(r:Ru X A kD base F)(k:Nx X A A' ws)(hf:FO A'.h more ws):Ru X A' (kD++more) base (F++ws):=⟨by rw[k.st,r.st,Np],k.below.trans r.below,k.Kt,(r.fo.up k.g.len).app hf⟩
theorem Ru.slot(r:Ru X A kD base F){i:Nat}{w:Wd}(hw:F[i]?=some w):A.slot i=some w:=by unfold Ma.slot;rw[r.below,Ji,r.st,MO,Om (by omega),show base.length+i-base.length=i by omega];exact hw
theorem zlR{x:Nm}{i:Nat}:∀{k:Nat},Ph kD x k=some i->kD[i]?=some x
 |0,e=>by cases e
 |k+1,e=>by
  rw[Ph]at e;split at e
  .next hx=>cases e;exact hx
  .exact zlR e
variable {hf:Nat}{w:Wd}
theorem VL{f:Ma->Option Wd}(hg:Good X.sys A)(k:f { A with fuel:=A.fuel-1 }=some w):Ok (Ma.Rk hf f { A with fuel:=A.fuel-1 }) λA'=>A'.h=A.h/\Nx X A A' [w]:=by unfold Ma.Rk;refine SF ?_;rw[k];exact .done ⟨rfl,rfl,rfl,hg,G.refl _,Kd _ _⟩
theorem zuL(q:Bs){x:Nm}(hk:x≠[]/\(x∈q.kD\/x∈X.fns)):∃i,q.use X.fns x=q.push i/\∀{A base F},Ru X A q.kD base F->Ok (X.ri [i] A) λA'=>∃w,Ad A'.h w/\Nx X A A' [w]:=by
 unfold Bs.use;cases hs:Nu q.kD x with
 |some i=>refine⟨.push i,rfl,λr=>Pm λ_=>?_⟩;obtain⟨w,w1,w2⟩:=r.fo.2 i x (zlR hs) hk.1;exact(VL r.Kt (r.slot w1)).mono λA'⟨e,k⟩=>⟨w,by rw[e];exact w2,k⟩
 |none=>
  have hf:x∈X.fns:=hk.2.resolve_left (Uw.1 hs);have aj:=TI hf;refine⟨.PM (X.fns.idxOf x),rfl,λ{A _ _}r=>Pm λ_=>?_⟩;refine(VL (w:=.ad (X.fns.idxOf x)) r.Kt ?_).mono λA'⟨e,k⟩=>⟨_,⟨_,rfl,?_⟩,k⟩
  .show(A.fns[X.fns.idxOf x]?).map Wd.ad=_;rw[r.Kt.2.1,List.getElem?_range aj];rfl
  .rw[e];exact Kl aj r.Kt.2.2
def UX (X:Cx) (A:Ma) (k:Nat) (A':Ma):Prop:=∃ws,ws.length=k/\(∀w∈ws,Ad A'.h w)/\Nx X A A' ws
theorem UX.cons{A2:Ma}(hw:Ad A'.h w)(h1:Nx X A A' [w])(h2:UX X A' k A2):UX X A (k+1) A2:=by
 obtain⟨ws,e,hs,n⟩:=h2;refine⟨w::ws,by simp[e],λv hv=>?_,h1.trans n⟩;rcases Mz.1 hv with rfl|hv
 .exact hw.up n.g.len
 .exact hs v hv
theorem zqX:∀(l:List Nm)(q:Bs),Kn X l q.kD->∃is,l.foldl (Bs.use X.fns) q=⟨q.blocks,q.kD++List.replicate l.length [],q.code++is⟩/\∀{A base F},Ru X A q.kD base F->Ok (X.ri is A) (UX X A l.length)
 |[],q,_=>⟨[],by simp,λ{A _ _}r=>.done ⟨[],rfl,by simp,by simp,rfl,r.Kt,G.refl _,qP _⟩⟩
 |x::l,q,hk=>by obtain⟨i,e1,r1⟩:=zuL q (hk x (by simp));obtain⟨is,e2,r2⟩:=zqX l (q.push i) ((hk.sub λy hy=>by simp[hy]).app [[]]);refine⟨i::is,by rw[NV,e1,e2];simp[Bs.push,VO],λr=>OI (a:=[i]) ((r1 r).mono λA'⟨w,w1,w2⟩=>?_)⟩;exact(r2 (r.next w2 (FO.none _ (k:=1) rfl))).mono λA2 k=>k.cons w1 w2
theorem Yn(q:Bs)(hk:Kn X l q.kD):∃is,q.J7 X.fns l=⟨q.blocks,q.kD++List.replicate l.length [],q.code++is⟩/\∀{A base F},Ru X A q.kD base F->Ok (X.ri is A) (UX X A l.length):=by
 have:=zqX l.reverse q (hk.sub λx hx=>by simpa using hx)
 rwa [OO]at this
variable {c:Nat}
theorem Y8{st:List Wd}{nd:List Nat->Nd}(hg:Good X.sys A)(hs:A.st=st++ws)(hc:ws.length=c)(hw:∀w∈ws,Ad A.h w)(hn:∀fs,fs.length=c->(∀f∈fs,f<A.h.length)->NT X.sys (A.h++[nd fs]) (nd fs)):Ok (A.SU hf nd c) λA'=>∃fs,fs.length=c/\A'={ A with h:=A.h++[nd fs],st:=st++[.ad A.h.length] }/\Good X.sys A':=by obtain⟨fs,e1,e2,e3⟩:=zm9 st hw;unfold Ma.SU;refine SF ?_;rw[hs,<-hc,e1,Sy];exact .done ⟨fs,e2,rfl,hg.1.app (hn fs (by omega) e3),hg.2.1,yM hg.2.2 (by simp)⟩
theorem Xj{α:Type}(l:List α)(x:α):(l++[x])[l.length]?=some x:=by simp
theorem Zl{sl:List Nm}(d1:Dp n e)(hn:n<=X.N)(d2:Cp.wt X.N e<=1300)(hq:X.fns.length<=bl.length)(hs:PB X ((X.wk n e 0 ⟨bl,sl,[]⟩).blocks++[(sl.length,(X.wk n e 0 ⟨bl,sl,[]⟩).code)]))(hk:Kn X (X.fr e) sl)(hl:sl.length<4096):CB X (X.wk n e 0 ⟨bl,sl,[]⟩).blocks.length sl.length:=by obtain⟨hx,_⟩:=P8 (M:=1300) X.N X.fns (by omega) n e 0 ⟨bl,sl,[]⟩ d1 (d1.le hn) d2;exact⟨hl,_,hs _ _ (RT hx hq) (Xj _ _),.inl ⟨n,e,⟨bl,sl,[]⟩,⟨d1,hn,d2,hq,hs.pre,hk⟩,rfl,rfl,rfl⟩⟩
theorem zsP(hd:Dp n e\/(e.kind=3\/e.kind=4)/\Dp (n+1) e)(hn:n+1<=X.N)(hw:Cp.wt X.N e<=1300)(hq:X.fns.length<=q.blocks.length)(hs:PB X (Mp (X.wk n) X.fr q e).1.blocks)(hk:Kn X (X.fr e) q.kD):
  (Il q.kD (X.fr e)).length<=1300/\∃k,(Il q.kD (X.fr e)).length<=k/\CB X (Mp (X.wk n) X.fr q e).2.1 k:=by
 have dD:Dp X.N e:=by
  rcases hd with hd|⟨_,hd⟩
  .exact hd.le (by omega)
  .exact hd.le hn
 have hlen:=yM (JA q.kD (X.fr e)) (IK X.N e);refine⟨by omega,?_⟩;by_cases h4:e.kind=4
 .obtain⟨aH,d,iI⟩:=dD.Nf.k4 h4;rw[zi8 q h4 iI]at hs|-;have ev:=Cp.UA dD;have cu:=Sw e.names;have EM:=dD.Qq (k:=d) (by simp[iI]);have ak:=dD.free;rw[iI]at ak;simp[h4]at ak;refine⟨_,?_,Zl ?_ (by omega) (by omega) hq hs (hk.held (out:=texts e.names) (λx hx fT=>?_) (λx hx=>Vq dD.Nf.nm hx) (λx hx=>by simp[hx]) (λx hx=>by simp[hx])) (by rw[OO,IJ,cu];omega)⟩
  .simp
  .rcases hd with hd|⟨_,hd⟩
   .exact hd.Nn (by simp[iI])
   .exact hd.2 d (by simp[iI])
  .show x∈Cp.free X.N e;rw[ak];exact Pu.2 ⟨hx,fT⟩
 .by_cases h3:e.kind=3
  .rw[zlg q h3]at hs|-;have ak:=dD.free;simp[h3]at ak;have:=hs _ _ hq (Xj _ _);rw[Q3]at this;have ha:=dD.Nf.ar;have ht:=dD.Nf.tag;exact⟨e.arity,by show(Il q.kD (Cp.free X.N e)).length<=_;rw[ak];simp[Il],by omega,_,this,.inr ⟨e.tag,by omega,rfl⟩⟩
  .rw[zh8 q h3 h4]at hs|-;refine⟨_,?_,Zl ?_ (by omega) hw hq hs (hk.held (out:=[]) (λx hx _=>hx) (by simp) (by simp) (by simp)) (by rw[OO];omega)⟩
   .simp
   .rcases hd with hd|⟨k3,_⟩
    .exact hd
    .omega
theorem CB.lt(hX:X.cd.length<=1000000)(c:CB X b k):b<=1000000:=by obtain⟨_,is,c,_⟩:=c;have:=(Dq.1 c).1;omega
theorem zqy(hX:X.cd.length<=1000000)(hd:Dp n e\/e.kind<=4/\Dp (n+1) e)(hn:n+1<=X.N)(hw:Cp.wt X.N e<=1300)(hq:X.fns.length<=q.blocks.length)(hs:PB X (Mf (X.wk n) X.fr X.fns q e).blocks)(hk:Kn X (X.fr e) q.kD):
  ∃is,(Mf (X.wk n) X.fr X.fns q e).code=q.code++is/\∀{A base F},Ru X A q.kD base F->Ok (X.ri is A) λA'=>∃w,Ad A'.h w/\Nx X A A' [w]:=by
 have dD:Dp X.N e:=by
  rcases hd with hd|⟨_,hd⟩
  .exact hd.le (by omega)
  .exact hd.le hn
 have fN:=dD.Nf.lo;have own:∀{A A':Ma}{nd:Nd},A'={ A with fuel:=A.fuel-1,h:=A.h++[nd],st:=A.st++[.ad A.h.length] }->Good X.sys A'->∃w,Ad A'.h w/\Nx X A A' [w]:=λ{A A' nd}e hg=>⟨.ad A.h.length,⟨_,rfl,by rw[e];simp⟩,by rw[e],by rw[e],hg,by rw[e];exact G.app nd,by rw[e];exact Kd _ _⟩
 by_cases h2:e.kind=2
 .have e1:Mf (X.wk n) X.fr X.fns q e=q.use X.fns e.tok.s:=by unfold Mf;rw[nB h2]
  have ak:=dD.free;simp only[h2,kP]at ak;obtain⟨i,c1,r1⟩:=zuL (X:=X) q (hk e.tok.s (by show e.tok.s∈Cp.free X.N e;rw[ak];simp));exact⟨[i],by rw[e1,c1];rfl,r1⟩
 .by_cases h1:e.kind=1
  .refine⟨[.num e.n],by unfold Mf;rw[pL h2,nB h1];rfl,λ{A _ _}r=>Pm λ_=>?_⟩;simp only[Ma.step,Ma.N5];exact SF (.done (own rfl ⟨r.Kt.1.app trivial,r.Kt.2.1,yM r.Kt.2.2 (by simp)⟩))
  .by_cases h3:e.kind=3/\e.arity=0
   .refine⟨[.pack e.tag 0],by unfold Mf;rw[pL h2,pL h1,nB h3];rfl,λ{A _ _}r=>Pm λ_=>?_⟩;have ht:=dD.Nf.tag;simp only[Ma.step,Ma.Ty];rw[nB ⟨by omega,by omega⟩];refine(Y8 (X:=X) (A:={ A with fuel:=A.fuel-1 }) (ws:=[]) (st:=A.st) r.Kt (by simp) rfl (by simp) (λfs e0 h0=>?_)).mono λA'⟨fs,_,e2,e3⟩=>own e2 e3
    exactλf hf=>Kl (h0 f hf) (by simp)
   .have e1:=YC (wk:=X.wk n) (fr:=X.fr) (fns:=X.fns) q h1 h2 h3;have aE:=WQ (X.wk n) X.fr q e;have EI:Kn X (Il q.kD (X.fr e)) q.kD:=hk.sub λx hx=>(Qk.1 hx).1
    obtain⟨is,u1,u2⟩:=Yn (X:=X) (Mp (X.wk n) X.fr q e).1 (l:=Il q.kD (X.fr e)) (by rw[aE.1];exact EI);rw[e1,u1]at hs;obtain⟨n2,k,n3,n4⟩:=zsP (X:=X) (n:=n) (q:=q) (e:=e) (by
     rcases hd with hd|⟨hle,hd⟩
     .exact .inl hd
     .exact .inr ⟨by omega,hd⟩) hn hw hq hs hk
    have hb:=n4.lt hX;refine⟨is++[.close (Mp (X.wk n) X.fr q e).2.1 (Il q.kD (X.fr e)).length],by rw[e1,u1];simp[Bs.push,Bs.drop,aE.2],λ{A _ _}r=>OI ((u2 (by rw[aE.1];exact r)).mono λA1⟨ws,w1,w2,w3⟩=>Pm λ_=>?_)⟩;simp only[Ma.step,Ma.UW];rw[nB ⟨by omega,by omega⟩];refine(Y8 (X:=X) (nd:=.Jb (Mp (X.wk n) X.fr q e).2.1) (A:={ A1 with fuel:=A1.fuel-1 }) (ws:=ws) (st:=A.st) w3.Kt w3.st w1 w2 (λfs e0 h0=>⟨λf hf=>Kl (h0 f hf) (by simp),k,by omega,n4⟩)).mono λA'⟨fs,_,e2,e3⟩=>?_
    exact⟨.ad A1.h.length,⟨_,rfl,by rw[e2];simp⟩,by rw[e2],by rw[e2];exact w3.below,e3,by rw[e2];exact w3.g.trans (G.app _),by rw[e2];exact yM (Kd _ _) w3.fuel⟩
variable {X:Cx} {h h':List Nd} {A A':Ma} {base F ws:List Wd} {kD more names:List Nm} {q:Bs} {n below:Nat} {e:Ex} {S:List Wd} {B:List Nat}
theorem zjk(hX:X.cd.length<=1000000)(hn:n+1<=X.N):∀(l:List Ex)(q:Bs),X.fns.length<=q.blocks.length->(∀x∈l,Dp n x/\Cp.wt X.N x<=1300/\Kn X (X.fr x) q.kD)->PB X (l.foldl (Mf (X.wk n) X.fr X.fns) q).blocks ->
  ∃is,(l.foldl (Mf (X.wk n) X.fr X.fns) q).code=q.code++is/\∀{A base F},Ru X A q.kD base F->Ok (X.ri is A) (UX X A l.length)
 |[],q,_,_,_=>⟨[],by simp,λ{A _ _}r=>.done ⟨[],rfl,by simp,by simp,rfl,r.Kt,G.refl _,qP _⟩⟩
 |x::l,q,hq,hl,hs=>by
  obtain⟨d1,d2,d3⟩:=hl x (by simp);rw[NV]at hs|-;obtain⟨bl,c,h1,_⟩:=zpz (X.wk n) X.fr X.fns q x;have aK:(Mf (X.wk n) X.fr X.fns q x).kD=q.kD++[[]]:=by rw[h1]
  have hx:=Xa (M:=1300) (N:=X.N) (by omega) (P8 X.N X.fns (by omega) n) (Oa 1300 X.N X.fns n) X.fns l (Mf (X.wk n) X.fr X.fns q x) (λy hy=>by obtain⟨g1,g2,_⟩:=hl y (by simp[hy]);exact⟨g1,g1.le (by omega),g2⟩)
  have cX:=zmi (M:=1300) (N:=X.N) (by omega) (P8 X.N X.fns (by omega) n) (Oa 1300 X.N X.fns n) X.fns q (.inl d1) (d1.le (by omega)) d2;obtain⟨i1,e1,r1⟩:=zqy hX (.inl d1) hn d2 hq (hs.ext hx) d3;obtain⟨i2,e2,r2⟩:=zjk hX hn l _ (RT cX hq) (λy hy=>by obtain⟨g1,g2,g3⟩:=hl y (by simp[hy]);exact⟨g1,g2,by rw[aK];exact g3.app _⟩) hs
  refine⟨i1++i2,by rw[e2,e1,Np],λr=>OI ((r1 r).mono λA'⟨w,w1,w2⟩=>?_)⟩;rw[aK]at r2;exact(r2 (r.next w2 (FO.none _ (k:=1) rfl))).mono λA2 k=>k.cons w1 w2
def HL (h:List Nd):List Wd->List (List Nm)->Prop
 |[],[]=>True
 |w::ws,ns::l=>(∃a b fs,w=.ad a/\h[a]?=some (.Jb b fs)/\fs.length=ns.length)/\HL h ws l
 |_,_=>False
theorem HL.up(g:G h h'):∀{ws:List Wd}{l:List (List Nm)},HL h ws l->HL h' ws l
 |[],[],_=>trivial
 |[],_::_,k=>k.elim
 |_::_,[],k=>k.elim
 |w::ws,ns::l,⟨⟨a,b,fs,e1,e2,e3⟩,k⟩=>by obtain⟨nd,g1,g2⟩:=g a _ e2;obtain⟨gs,rfl,g3⟩:=zt4 g2;exact⟨⟨a,b,gs,e1,g1,by omega⟩,k.up g⟩
theorem HL.len:∀{ws:List Wd}{l:List (List Nm)},HL h ws l->ws.length=l.length/\∀w∈ws,Ad h w
 |[],[],_=>⟨rfl,by simp⟩
 |[],_::_,k=>k.elim
 |_::_,[],k=>k.elim
 |w::ws,ns::l,⟨⟨a,b,fs,e1,e2,e3⟩,k⟩=>by
  obtain⟨k1,k2⟩:=k.len;refine⟨by simp[k1],λv hv=>?_⟩;rcases Mz.1 hv with rfl|hv
  .exact⟨a,e1,(Dq.1 e2).1⟩
  .exact k2 v hv
theorem YO(hX:X.cd.length<=1000000)(hn:n+1<=X.N):∀(l:List Ex)(b:Bs)(a:List (List Nm)),X.fns.length<=b.blocks.length->(∀x∈l,Dp n x/\Cp.wt X.N x<=1300/\Kn X (X.fr x) b.kD)->PB X (makeAll (X.wk n) X.fr l b a).1.blocks ->
  ∃is nms,(makeAll (X.wk n) X.fr l b a).1.code=b.code++is/\(makeAll (X.wk n) X.fr l b a).1.kD=b.kD/\(makeAll (X.wk n) X.fr l b a).2=a++nms/\nms.length=l.length/\(∀ns∈nms,Kn X ns b.kD)/\∀{A},Good X.sys A->Ok (X.ri is A) λA'=>∃ws,HL A'.h ws nms/\Nx X A A' ws
 |[],b,a,_,_,_=>⟨[],[],by simp[makeAll],rfl,by simp[makeAll],rfl,by simp,λ{A}g=>.done ⟨[],trivial,by simp,rfl,g,G.refl _,qP _⟩⟩
 |p::l,b,a,hq,hl,hs=>by
  obtain⟨d1,d2,d3⟩:=hl p (by simp);rw[makeAll]at hs|-;obtain⟨c,hc⟩:∃c,c=Mp (X.wk n) X.fr b p:=⟨_,rfl⟩;have aE:=WQ (X.wk n) X.fr b p;have cX:=zgm (M:=1300) (N:=X.N) (by omega) (P8 X.N X.fns (by omega) n) (Oa 1300 X.N X.fns n) b (.inl d1) (d1.le (by omega)) d2;have wK:c.2.2=Il b.kD (X.fr p):=by rw[hc];rfl
  have rX:=λhs=>zsP (X:=X) (n:=n) (q:=b) (e:=p) (.inl d1) hn d2 hq hs d3
  rw[<-hc]at hs aE cX rX|-;have hx:=zmj (M:=1300) (N:=X.N) (by omega) (P8 X.N X.fns (by omega) n) (Oa 1300 X.N X.fns n) l (c.1.write (.hold c.2.1 c.2.2.length)) (a++[c.2.2]) (λy hy=>by obtain⟨g1,g2,_⟩:=hl y (by simp[hy]);exact⟨g1,g1.le (by omega),g2⟩)
  obtain⟨n2,k,n3,n4⟩:=rX (PB.ext (q:=c.1.write (.hold c.2.1 c.2.2.length)) hs hx);have hb:=n4.lt hX;obtain⟨is,nms,m1,m2,m3,m4,m5,m6⟩:=YO hX hn l (c.1.write (.hold c.2.1 c.2.2.length)) (a++[c.2.2]) (RT (q':=c.1) cX hq) (λy hy=>by obtain⟨g1,g2,g3⟩:=hl y (by simp[hy]);exact⟨g1,g2,by show Kn X _ c.1.kD;rw[aE.1];exact g3⟩) hs
  have po:(c.1.write (.hold c.2.1 c.2.2.length)).kD=b.kD:=aE.1;refine⟨.hold c.2.1 c.2.2.length::is,c.2.2::nms,by rw[m1];simp[Bs.write,aE.2],m2.trans po,by rw[m3];simp,by simp[m4],λns hm=>?_,λ{A}g=>OI (a:=[_]) (Pm λ_=>?_)⟩
  .rcases Mz.1 hm with rfl|hm
   .rw[wK];exact d3.sub λx hx=>(Qk.1 hx).1
   .have:=m5 ns hm
    rwa [po]at this
  .simp only[Ma.step,Ma.hold];rw[nB ⟨by omega,by rw[wK];omega⟩];refine SF (.done ((m6 ?_).mono λA2⟨ws,w1,w2⟩=>?_))
   .refine⟨g.1.app ⟨λf hf=>?_,k,by simp only[Q3];rw[wK];exact n3,n4⟩,g.2.1,yM g.2.2 (by simp)⟩;rw[VP hf];simp
   .obtain⟨nd,g1,g2⟩:=w2.g A.h.length (.Jb c.2.1 (List.replicate c.2.2.length A.h.length)) (by simp);obtain⟨gs,rfl,g3⟩:=zt4 g2;exact⟨.ad A.h.length::ws,⟨⟨_,_,gs,rfl,g1,by rw[g3];simp⟩,w1⟩,by rw[w2.st];simp,w2.below,w2.Kt,(G.app _).trans w2.g,yM w2.fuel (Kd _ _)⟩
theorem zqv:∀(nms:List (List Nm))(i:Nat)(b:Bs),(∀ns∈nms,Kn X ns b.kD) ->
  ∃is,(Od X.fns i nms b).code=b.code++is/\∀{A base P ws},Ru X A b.kD base (P++ws)->P.length=i->HL A.h ws nms->Ok (X.ri is A) λA'=>Nx X A A' []
 |[],i,b,_=>⟨[],by simp[Od],λ{A _ _ _}r _ _=>.done ⟨by simp,rfl,r.Kt,G.refl _,qP _⟩⟩
 |ns::l,i,b,hk=>by
  rw[Od];obtain⟨i1,u1,r1⟩:=Yn (X:=X) b (hk ns (by simp));have hb:(Bs.write (Bs.drop (b.J7 X.fns ns) ns.length) (.fill i ns.length))=⟨b.blocks,b.kD,b.code++(i1++[.fill i ns.length])⟩:=by rw[u1];simp[Bs.write,Bs.drop]
  rw[hb];obtain⟨i2,e2,r2⟩:=zqv l (i+1) ⟨b.blocks,b.kD,b.code++(i1++[.fill i ns.length])⟩ (λm hm=>hk m (by simp[hm]));refine⟨(i1++[.fill i ns.length])++i2,by rw[e2];simp,λ{A base P ws}r hP hl=>?_⟩;cases ws with
  |nil=>exact hl.elim
  |cons w ws=>
   refine OI (OI ((r1 r).mono λA1⟨vs,v1,v2,v3⟩=>Pm λ_=>?_));obtain⟨⟨a,bk,fs,e1,e3,e4⟩,aC⟩:=hl.up v3.g;have aK:Ma.slot { A1 with fuel:=A1.fuel-1 } i=some w:=(r.next v3 (FO.none _ v1)).slot (by rw[<-hP];simp);obtain⟨gs,t1,t2,t3⟩:=zm9 A.st v2;simp only[Ma.step,Ma.fill];rw[aK,e1];simp only;rw[e3];simp only;rw[nB e4,v3.st,<-v1,t1,Sy];have hg:G A1.h (A1.h.set a (.Jb bk gs)):=λc nd hc=>by
    rw[Kw];split
    .next ec=>subst ec;rw[e3]at hc;cases hc;exact⟨.Jb bk gs,by rw[nB (Dq.1 e3).1],by simp[sh];omega⟩
    .exact⟨nd,hc,rfl⟩
   obtain⟨k1,k,k2,k3⟩:=v3.Kt.1 a _ e3;have gJ:Good X.sys { A1 with h:=A1.h.set a (.Jb bk gs),st:=A.st,fuel:=A1.fuel-1 }:=⟨v3.Kt.1.set hg.gv ⟨λf hf=>Kl (t3 f hf) hg.len,k,by omega,k3⟩,v3.Kt.2.1,yM v3.Kt.2.2 hg.len⟩;refine .done ((r2 (base:=base) (P:=P++[w]) (ws:=ws) ⟨by simp only;rw[r.st];simp,by simp only;rw[v3.below];exact r.below,gJ,?_⟩ (by simp[hP]) (aC.up hg)).mono λA2 k2=>⟨k2.st,k2.below.trans v3.below,k2.Kt,(v3.g.trans hg).trans k2.g,yM k2.fuel (yM (Kd _ _) v3.fuel)⟩);have:=r.fo.up (yM v3.g.len hg.len);simpa using this
def Wk (X:Cx) (kD:List Nm) (below:Nat) (is:List Ds):Prop:=∀{A base F0 κ B},κ.length=below->Ru X A kD base (F0++κ)->K X.sys A.h (base++κ) B->BZ A.h B->Ok (X.ri is A) λA'=>Cf X.sys A'/\A'.fuel<A.fuel
def VJ (X:Cx) (n:Nat):Prop:=∀{e below q},Wq X n e below q->∃is,(X.wk n e below q).code=q.code++is/\Wk X q.kD below is
theorem zwY{T:List Wd}(hs:A.st=base++F++T)(hb:A.below=base.length)(hT:T.length=c):Ok (X.ri [.NG c] A) λA'=>A'={ A with st:=base++T,fuel:=A.fuel-1 }:=by
 refine Pm λ_=>?_
 simp only[Ma.step,Ma.NG];rw[hb,nB ⟨by omega,by rw[MO,hs];simp;omega⟩,MO];have h1:A.st.take base.length=base:=by rw[hs,Np,List.take_left]
 have h2:A.st.drop (A.st.length-c)=T:=by rw[hs,show(base++F++T).length-c=(base++F).length by simp;omega,List.drop_left]
 rw[h1,h2];exact .done rfl
theorem zsW(hs:A.st=S++[w])(hw:Ad A.h w)(hK:K X.sys A.h S B)(hB:BZ A.h B)(hG:Good X.sys A):Ok (X.ri [.enter] A) λA'=>Cf X.sys A'/\A'.fuel<A.fuel:=by obtain⟨a,rfl,ha⟩:=hw;exact Pm λh0=>(enter (A:={ A with fuel:=A.fuel-1 }) hs ha hK hB hG).mono λA'⟨c,f⟩=>⟨c,by rw[f];simp only;omega⟩
theorem Vl(hX:X.cd.length<=1000000)(hw:Wq X (n+1) e below q)(hk:e.kind<=4):∃is,(X.wk (n+1) e below q).code=q.code++is/\Wk X q.kD below is:=by
 obtain⟨h1,h2,h3,h4,h5,h6⟩:=hw;have he:X.wk (n+1) e below q=(Mf (X.wk n) X.fr X.fns q e).ends (below+1) .enter:=by show Cp.work _ _ _ _ _ _=_;rw[Cp.work,qj,qj,qj,qj]
 rw[he]at h5|-;obtain⟨is,e1,r1⟩:=zqy hX (.inr ⟨hk,h1⟩) h2 h3 h4 h5 h6;refine⟨is++([.NG (below+1)]++[.enter]),by simp[Bs.ends,Bs.write,e1],λ{A base F0 κ B}hκ r hK hB=>OI ((r1 r).mono λA1⟨w,w1,w2⟩=>OI ?_)⟩;refine(zwY (X:=X) (base:=base) (F:=F0) (T:=κ++[w]) (by rw[w2.st,r.st];simp) (w2.below.trans r.below) (by simp[hκ])).mono λA2 e2=>?_
 have hf:=w2.fuel;refine(zsW (S:=base++κ) (B:=B) (w:=w) (by rw[e2];simp) (by rw[e2];exact w1) (by rw[e2];exact hK.up w2.g.gv) (by rw[e2];exact w2.g.bz hB) (by rw[e2];exact w2.Kt)).mono λA3⟨c,f⟩=>⟨c,?_⟩
 rw[e2]at f;simp only at f;omega
theorem zkp(hX:X.cd.length<=1000000)(ih:VJ X n)(hw:Wq X (n+1) e below q)(hk:e.kind=5):∃is,(X.wk (n+1) e below q).code=q.code++is/\Wk X q.kD below is:=by
 obtain⟨h1,h2,h3,h4,h5,h6⟩:=hw;have dD:=h1.le h2;obtain⟨f,a,a7⟩:=h1.Nf.k5 (.inl hk);obtain⟨s1,s2,s3⟩:=Xe (n+1) e dD;obtain⟨s5,s6⟩:=zgt (n+1) e dD hk;obtain⟨d1,d2⟩:=zjV (n:=n) n e f a a7 h1;have s4:=zhU (m:=n) a7;have he:X.wk (n+1) e below q=X.wk n (spread (n+1) e).1 (below+(spread (n+1) e).2.length+1) (((spread (n+1) e).2.reverse.foldl (Mf (X.wk n) X.fr X.fns) q).push (.N6 (spread (n+1) e).2.length)):=by show Cp.work _ _ _ _ _ _=_;rw[Cp.work,nB hk]
 rw[he]at h5|-;generalize spread (n+1) e=s at *;obtain⟨fe,es⟩:=s;simp only at s1 s2 s3 s4 s5 s6 d1 d2 h5|-;have cQ:∀x∈es.reverse,Dp n x/\Cp.wt X.N x<=1300/\Kn X (X.fr x) q.kD:=λx hx=>by
  have ij:x∈es:=by simpa using hx
  exact⟨d2 x ij,by have:=QR (f:=Cp.wt X.N) ij;omega,h6.sub (s6 x ij)⟩
 have pU:=P8 (M:=1300) X.N X.fns (by omega) n;have ic:=Oa 1300 X.N X.fns n;have ee:=Xa (M:=1300) (N:=X.N) (by omega) pU ic X.fns es.reverse q (λx hx=>⟨(cQ x hx).1,s3 x (by simpa using hx),(cQ x hx).2.1⟩);obtain⟨_,a2,_⟩:=Tn ic X.fns es.reverse q (λx hx=>⟨s3 x (by simpa using hx),(cQ x hx).2.1⟩);obtain⟨tE,_⟩:=pU fe (below+es.length+1) ((es.reverse.foldl (Mf (X.wk n) X.fr X.fns) q).push (.N6 es.length)) d1 s2 (by omega);obtain⟨i1,e1,r1⟩:=zjk hX h2 es.reverse q h4 cQ (h5.ext ((RM _ (.N6 es.length) trivial).trans tE));have aK:((es.reverse.foldl (Mf (X.wk n) X.fr X.fns) q).push (.N6 es.length)).kD=q.kD++(List.replicate es.length []++[[]]):=by simp only[Bs.push];rw[a2];simp
 obtain⟨i2,e2,r2⟩:=ih (e:=fe) (below:=below+es.length+1) (q:=(es.reverse.foldl (Mf (X.wk n) X.fr X.fns) q).push (.N6 es.length)) ⟨d1,by omega,by omega,RT (ee.trans (RM _ _ trivial)) h4,h5,by rw[aK];exact(h6.sub s5).app _⟩;rw[aK]at r2;refine⟨i1++([.N6 es.length]++i2),by rw[e2];simp only[Bs.push];rw[e1];simp,λ{A base F0 κ B}hκ r hK hB=>OI ((r1 r).mono λA1⟨ws,v1,v2,v3⟩=>OI (Pm λ_=>?_))⟩;rw[OO]at v1;simp only[Ma.step];rw[Ji];refine(VL (X:=X) (w:=.mk 2 es.length) v3.Kt rfl).mono λA2⟨eh,nx⟩=>?_
 have nj:=v3.trans nx;have hf:=nj.fuel;have rE:K X.sys A2.h (base++κ++(ws++[.mk 2 ws.length])) B:=.args (hK.up nj.g.gv) (by rw[eh];exact v2) (by omega) (by omega);refine(r2 (A:=A2) (base:=base) (F0:=F0) (κ:=κ++(ws++[.mk 2 es.length])) (B:=B) (by simp[v1,hκ];omega) ?_ (by rw[v1]at rE;rw[<-Np];exact rE) (nj.g.bz hB)).mono λA3⟨c,f⟩=>⟨c,by omega⟩
 have:=r.next nj ((FO.none A2.h v1).app (FO.none (ws:=[.mk 2 es.length]) _ (k:=1) rfl));simpa using this
theorem zoU(ih:VJ X n){l:Ex}(d1:Dp n l)(d2:n<=X.N)(d3:Cp.wt X.N l<=1300)(hq:X.fns.length<=bl.length)(hs:PB X (X.wk n l (below+names.length+1) ((Bs.J7 X.fns ⟨bl,q.kD,q.code⟩ names).push (.wait b))).blocks)(kl:Kn X (X.fr l) q.kD)(hk:Kn X names q.kD)(hR:PB X bl->b<1000000000/\∀{h' ws v},ws.length=names.length->(∀w∈ws,Ad h' w)->Vd X.sl h' v->RB X h' (ws++[.ad v]) b):
  ∃is,(X.wk n l (below+names.length+1) ((Bs.J7 X.fns ⟨bl,q.kD,q.code⟩ names).push (.wait b))).code=q.code++is/\Wk X q.kD below is:=by
 obtain⟨i1,e1,r1⟩:=Yn (X:=X) ⟨bl,q.kD,q.code⟩ hk;rw[e1]at hs|-;obtain⟨hx,_⟩:=P8 (M:=1300) X.N X.fns (by omega) n l (below+names.length+1) (Bs.push ⟨bl,q.kD++List.replicate names.length [],q.code++i1⟩ (.wait b)) d1 (d1.le d2) d3;obtain⟨hb,hR⟩:=hR (hs.ext hx);obtain⟨i2,e2,r2⟩:=ih ⟨d1,d2,d3,hq,hs,by simpa[Bs.push]using kl.app (List.replicate names.length []++[[]])⟩;refine⟨i1++([.wait b]++i2),by rw[e2];simp[Bs.push],λ{A base F0 κ B}hκ r hK hB=>OI ((r1 r).mono λA1⟨ws,v1,v2,v3⟩=>OI (Pm λ_=>?_))⟩;simp only[Ma.step];rw[Ji];refine(VL (X:=X) (w:=.mk 1 b) v3.Kt rfl).mono λA2⟨eh,nx⟩=>?_
 have nj:=v3.trans nx;have hf:=nj.fuel;refine(r2 (A:=A2) (base:=base) (F0:=F0) (κ:=κ++(ws++[.mk 1 b])) (B:=B) (by simp[v1,hκ];omega) ?_ (by rw[<-Np];exact .wait (hK.up nj.g.gv) hb (λh' v g hv=>hR v1 (λw hm=>(v2 w hm).up (yM (by rw[<-eh];exact qP _) g.1)) hv)) (nj.g.bz hB)).mono λA3⟨c,f⟩=>⟨c,by omega⟩
 have:=r.next nj ((FO.none A2.h v1).app (FO.none (ws:=[.mk 1 b]) _ (k:=1) rfl));simpa[Bs.push]using this
variable {X:Cx} {h h':List Nd} {A A':Ma} {base F ws:List Wd} {kD more names:List Nm} {q:Bs} {n below:Nat} {e:Ex} {S:List Wd} {B:List Nat}
theorem zp8(hX:X.cd.length<=1000000)(ih:VJ X n)(hw:Wq X (n+1) e below q)(hk:e.kind=6):∃is,(X.wk (n+1) e below q).code=q.code++is/\Wk X q.kD below is:=by
 obtain⟨h1,h2,h3,h4,h5,h6⟩:=hw;have dD:=h1.le h2;obtain⟨l,r,a7⟩:=h1.Nf.k5 (.inr hk);have he:X.wk (n+1) e below q=_:=zh3 X.fns n below q hk a7;have dl:=h1.2 l (by simp[a7]);have dr:=h1.2 r (by simp[a7]);have wl:=dD.Qq (k:=l) (by simp[a7]);have wr:=dD.Qq (k:=r) (by simp[a7]);have ak:=dD.free;rw[a7]at ak;simp[hk]at ak;have kl:Kn X (X.fr l) q.kD:=h6.sub (λx hx=>by show x∈Cp.free X.N e;rw[ak];exact No.2 (.inl hx));have kr:Kn X (X.fr r) q.kD:=h6.sub (λx hx=>by show x∈Cp.free X.N e;rw[ak];exact No.2 (.inr hx));obtain⟨names,bu⟩:∃names,names=Il q.kD (X.fr r):=⟨_,rfl⟩;rw[<-bu]at he;obtain⟨yj,_⟩:=P8 (M:=1300) X.N X.fns (by omega) n r 2 (OJ q names e) dr (dr.le (by omega)) (by omega);rw[he]at h5|-;have bC:X.fns.length<=(OJ q names e).blocks.length:=by simp[OJ];omega
 refine zoU ih dl (by omega) (by omega) (by have:=RT yj bC;simp;omega) h5 kl (kr.sub λx hx=>by rw[bu]at hx;exact(Qk.1 hx).1) (λhs=>?_);have hb:=hs _ _ (RT yj bC) (Xj _ _);have cV:=(Dq.1 hb).1;have aw:X.cd[q.blocks.length]?=some (2,[.comp ⟨e.tok.s.toArray⟩,.enter]):=(hs.pre.ext yj) _ _ h4 (Xj _ _);refine⟨by omega,λ{h' ws v}hl hw hv=>⟨_,by rw[IJ,hl];exact hb,.inr (.inl ⟨ws,v,n,r,OJ q names e,q.blocks.length,e.tok.s,names.reverse,rfl,hv,hw,⟨dr,by omega,by omega,bC,hs.pre,?_⟩,by simp[OJ,hl],by simp[hl],by simp[OJ],rfl,aw,dD.Nf.k6 hk⟩)⟩⟩;exact kr.held (out:=[]) (λx hx _=>hx) (by simp) (by simp) (λx hx=>by rw[<-bu]at hx;simp[OJ,hx])
theorem zsy(hn:n<=X.N)(ev:names.length<=1300):∀(az:List (Nat × List Tok))(ds:List Ex)(b:Bs)(l:List (Nat × Nat × Nat)),X.fns.length<=b.blocks.length->(∀a∈az,a.2.length<=1300)->(∀d∈ds,Dp n d/\Cp.wt X.N d<=1300) ->
  (∀(i:Nat)(a:Nat × List Tok)(d:Ex),az[i]?=some a->ds[i]?=some d->Kn X (X.fr d) (texts a.2++names).reverse)->PB X (Cp.armsOf (X.wk n) names az ds b l).1.blocks->∀o∈(Cp.armsOf (X.wk n) names az ds b l).2,o∈l\/CB X o.2.2 (names.length+o.2.1)
 |[],ds,b,l,_,_,_,_,_,o,ho=>.inl (by simpa[Cp.armsOf]using ho)
 |a::az,[],b,l,_,_,_,_,_,o,ho=>.inl (by simpa[Cp.armsOf]using ho)
 |a::az,d::ds,b,l,hq,hA,hD,hk,hs,o,ho=>by
  rw[Cp.armsOf]at hs ho;obtain⟨g1,g2⟩:=hD d (by simp);have aU:=hA a (by simp);have hx:=P8 (M:=1300) X.N X.fns (by omega) n;obtain⟨hw,_⟩:=hx d 0 ⟨b.blocks,(texts a.2++names).reverse,[]⟩ g1 (g1.le hn) g2;have hlen:(texts a.2++names).reverse.length=names.length+a.2.length:=by simp[texts]
  have nO:=RT hw hq;have hex:=YN (M:=1300) (N:=X.N) (by omega) hx (Oa 1300 X.N X.fns n) names (by omega) az ds (b.NP (texts a.2++names).reverse (X.wk n d 0)).1 (l++[(a.1,a.2.length,(b.NP (texts a.2++names).reverse (X.wk n d 0)).2)]) (λa' xg=>by have:=hA a' (by simp[xg]);omega) (λd' iH=>by obtain⟨k1,k2⟩:=hD d' (by simp[iH]);exact⟨k1,k1.le hn,k2⟩)
  have mT:=hs.ext hex;rcases zsy hn ev az ds _ _ (by show X.fns.length<=(_++[_]).length;rw[IJ];exact yM nO (TG _ _)) (λa' xg=>hA a' (by simp[xg])) (λd' iH=>hD d' (by simp[iH])) (λi a' d' e1 e2=>hk (i+1) a' d' (by simpa using e1) (by simpa using e2)) hs o ho with ho|ho
  .rcases Ni.1 ho with ho|ho
   .exact .inl ho
   .rw[NA.1 ho];have:=Zl g1 hn g2 hq mT (hk 0 a d rfl rfl) (by omega);rw[hlen]at this;exact .inr this
  .exact .inr ho
theorem zkq(hX:X.cd.length<=1000000)(ih:VJ X n)(hw:Wq X (n+1) e below q)(hk:e.kind=9):∃is,(X.wk (n+1) e below q).code=q.code++is/\Wk X q.kD below is:=by
 obtain⟨h1,h2,h3,h4,h5,h6⟩:=hw;have dD:=h1.le h2;obtain⟨_,s,ds,a7,rY⟩:=h1.Nf.k9 hk;obtain⟨names,bu⟩:∃names,names=Il q.kD (Mu X.fr e.nA ds []):=⟨_,rfl⟩;obtain⟨ao,mJ⟩:∃ao,ao=Cp.armsOf (X.wk n) names e.nA ds ⟨q.blocks,([]::names).reverse,[]⟩ []:=⟨_,rfl⟩;have he:X.wk (n+1) e below q=_:=zfk X.fns n below q hk a7 bu mJ;have DF:=h1.2 s (by simp[a7]);have po:=dD.Qq (k:=s) (by simp[a7]);have ak:=dD.free;rw[a7]at ak;simp[hk]at ak;have ks:Kn X (X.fr s) q.kD:=h6.sub (λx hx=>by show x∈Cp.free X.N e;rw[ak];exact No.2 (.inl hx));have ka:Kn X (Mu X.fr e.nA ds []) q.kD:=h6.sub (λx hx=>by show x∈Cp.free X.N e;rw[ak];exact No.2 (.inr hx));have dj:=dD.wt;rw[a7]at dj;simp only[Ki,MW]at dj;have aU:=Ut X.fr (Cp.wt X.N) (IK X.N) e.nA ds [];have rN:=JA q.kD (Mu X.fr e.nA ds []);rw[<-bu]at rN;simp only[My,On]at aU;have hx:=P8 (M:=1300) X.N X.fns (by omega) n;have hc:=Oa 1300 X.N X.fns n;have dQ:∀x∈ds,Dp n x/\Cp.wt X.N x<=1300:=λx hx=>⟨h1.2 x (by simp[a7,hx]),by have:=dD.Qq (k:=x) (by simp[a7,hx]);omega⟩
 have nR:∀x∈ds,Dp n x/\Dp X.N x/\Cp.wt X.N x<=1300:=λx hx=>⟨(dQ x hx).1,(dQ x hx).1.le (by omega),(dQ x hx).2⟩
 have pQ:∀a∈e.nA,a.2.length<=1300:=λa ha=>by have:=zsw dD a ha;omega
 have xu:=YN (M:=1300) (N:=X.N) (by omega) hx hc names (by omega) e.nA ds ⟨q.blocks,([]::names).reverse,[]⟩ [] (λa ha=>by have:=pQ a ha;omega) nR;have Aj:=(W8 hc names e.nA ds ⟨q.blocks,([]::names).reverse,[]⟩ [] (λx hx=>(nR x hx).2)).2.2;have jl:=zsy (X:=X) (n:=n) (names:=names) (by omega) (by omega) e.nA ds ⟨q.blocks,([]::names).reverse,[]⟩ [] h4 pQ dQ (λi a d ha hd=>ka.held (out:=texts a.2) (λx hx fT=>WN.2 (.inr ⟨i,a,d,ha,hd,hx,fT⟩)) (λx hx=>Vq (dD.Nf.am a (ML ha)).2 hx) (λx hx=>by simp[hx]) (λx hx=>by rw[<-bu]at hx;simp[hx]));rw[<-mJ]at xu Aj jl;rw[he]at h5|-;refine zoU ih DF (by omega) (by omega) (by have:=RT xu h4;simp;omega) h5 ks (ka.sub λx hx=>by rw[bu]at hx;exact(Qk.1 hx).1) (λhs=>?_);have hb:=hs _ _ (RT xu h4) (Xj _ _);have cV:=(Dq.1 hb).1;rw[Aj]at hb;exact⟨by omega,λ{h' ws v}hl hw hv=>⟨_,by rw[IJ,hl];exact hb,.inr (.inr (.inr ⟨ws,v,ao.2,rfl,hv,hw,rfl,λo ho=>by
  rcases jl hs.pre o ho with ho|ho
  .simp at ho
  .rw[hl];exact ho⟩))⟩⟩
theorem zuQ(hw:Wq X (n+1) e below q)(hk:e.kind=7\/e.kind=8)(hb:below≠0):∃is,(X.wk (n+1) e below q).code=q.code++is/\Wk X q.kD below is:=by
 obtain⟨h1,h2,h3,h4,h5,h6⟩:=hw;obtain⟨names,bu⟩:∃names,names=Il q.kD (X.fr e):=⟨_,rfl⟩;have he:X.wk (n+1) e below q=Bs.ends ⟨(X.wk (n+1) e 0 ⟨q.blocks,names.reverse,[]⟩).blocks++[(names.reverse.length,(X.wk (n+1) e 0 ⟨q.blocks,names.reverse,[]⟩).code)],(q.J7 X.fns names).kD,(q.J7 X.fns names).code⟩ (below+names.length) (.jump (X.wk (n+1) e 0 ⟨q.blocks,names.reverse,[]⟩).blocks.length):=by show Cp.work _ _ _ _ _ _=_;rw[Cx.wk,YG hk];rw[Cp.work,qj,qj,qj,nB hk,pL hb];simp only[Bs.NP];rw[zex,<-bu]
 rw[he]at h5|-;have hlen:=yM (JA q.kD (X.fr e)) (IK X.N e);rw[<-bu]at hlen;have jl:=Zl (X:=X) (sl:=names.reverse) (bl:=q.blocks) h1 h2 h3 h4 h5 (h6.held (out:=[]) (λx hx _=>hx) (by simp) (by simp) (λx hx=>by rw[<-bu]at hx;simp[hx])) (by simp;omega);generalize X.wk (n+1) e 0 ⟨q.blocks,names.reverse,[]⟩=R at *;obtain⟨i1,e1,r1⟩:=Yn (X:=X) q (l:=names) (h6.sub λx hx=>by rw[bu]at hx;exact(Qk.1 hx).1);refine⟨i1++([.NG (below+names.length)]++[.jump R.blocks.length]),by simp[Bs.ends,Bs.write,e1],λ{A base F0 κ B}hκ r hK hB=>OI ((r1 r).mono λA1⟨ws,w1,w2,w3⟩=>OI ?_)⟩;refine(zwY (X:=X) (base:=base) (F:=F0) (T:=κ++ws) (by rw[w3.st,r.st];simp) (w3.below.trans r.below) (by simp[hκ,w1])).mono λA2 e2=>Pm λh0=>?_
 have hf:=w3.fuel;rw[e2]at h0|-;refine .done ⟨⟨w3.Kt,base++κ,B,ws,by simp,hK.up w3.g.gv,w3.g.bz hB,.inl ⟨R.blocks.length,rfl,(X.sys.cb _ _ jl).2.2 _ _ (by simp[w1]) w2⟩⟩,?_⟩;simp only at h0|-;omega
theorem znf(hX:X.cd.length<=1000000)(ih:VJ X n)(hw:Wq X (n+1) e 0 q)(hk:e.kind=7\/e.kind=8):∃is,(X.wk (n+1) e 0 q).code=q.code++is/\Wk X q.kD 0 is:=by
 obtain⟨h1,h2,h3,h4,h5,h6⟩:=hw;have dD:=h1.le h2;obtain⟨aH,b,ps,a7,gK⟩:=h1.Nf.k7 hk;have he:X.wk (n+1) e 0 q=X.wk n b 0 (Oz (X.wk n) X.fr X.fns e ps q):=by rw[Cx.wk,YG hk,UF a7]
 rw[he]at h5|-;have ak:=dD.free;rw[a7]at ak;have hx:=P8 (M:=1300) X.N X.fns (by omega) n;have hc:=Oa 1300 X.N X.fns n;have dQ:∀x∈ps,Dp n x/\Dp X.N x/\Cp.wt X.N x<=1300:=λx hx=>⟨h1.2 x (by simp[a7,hx]),dD.Nn (by simp[a7,hx]),by have:=dD.Qq (k:=x) (by simp[a7,hx]);omega⟩
 have uF:=dD.Qq (k:=b) (by simp[a7]);have dq:=h1.2 b (by simp[a7]);have Eo:=znP (M:=1300) (N:=X.N) (by omega) hx hc X.fns (e:=e) (ps:=ps) q dQ;have aK:=(WX hc X.fns a7 gK q dD h3).2.1;obtain⟨tF,_⟩:=hx b 0 (Oz (X.wk n) X.fr X.fns e ps q) dq (dq.le (by omega)) (by omega);have mT:=h5.ext tF;have iZ:∀y∈texts e.names,y≠[]:=λy hy=>Vq dD.Nf.nm hy
 have cu:=Sw e.names;have Ar:∀l:List Nm,(∀y∈l,y ∉ texts e.names->y∈X.fr e)->Kn X l (q.kD++texts e.names):=λl hl y hy=>by
  by_cases pq:y∈texts e.names
  .exact⟨iZ y pq,.inl (by simp[pq])⟩
  .exact((h6.sub λz hz=>by rw[NA.1 hz];exact hl y hy pq).app (texts e.names)) y (List.mem_singleton_self y)
 obtain⟨i2,e2,r2⟩:=ih (e:=b) (below:=0) (q:=Oz (X.wk n) X.fr X.fns e ps q) ⟨dq,by omega,by omega,RT Eo h4,h5,by
  rw[aK];refine Ar _ λy hy pq=>?_
  show y∈Cp.free X.N e;rw[ak];rcases hk with hk|hk<;>simp[hk]<;>exact No.2 (.inr (Pu.2 ⟨hy,pq⟩))⟩
 rw[aK]at r2;have uE:∃i1,(Oz (X.wk n) X.fr X.fns e ps q).code=q.code++i1/\∀{A base F},Ru X A q.kD base F->Ok (X.ri i1 A) (UX X A ps.length):=by
  unfold Oz at mT|-;by_cases h8:e.kind=8
  .rw[nB h8]at mT|-;obtain⟨i1,nms,m1,m2,m3,m4,m5,m6⟩:=YO hX h2 ps { q with kD:=q.kD++texts e.names } [] h4 (λx hx=>⟨(dQ x hx).1,(dQ x hx).2.2,Ar _ λy hy pq=>by
    show y∈Cp.free X.N e;rw[ak];simp[h8];exact No.2 (.inl (Pu.2 ⟨Sr.2 (.inr ⟨x,hx,hy⟩),pq⟩))⟩) (mT.ext (zmh X.fns _ _ _))
   simp only;obtain⟨i3,f1,f2⟩:=zqv (X:=X) nms q.kD.length (makeAll (X.wk n) X.fr ps { q with kD:=q.kD++texts e.names } []).1 (by rw[m2];exact m5);rw[m3,MQ,f1,m1];refine⟨i1++i3,by simp,λ{A base F}r=>OI ((m6 r.Kt).mono λA1⟨ws,w1,w2⟩=>?_)⟩;obtain⟨l1,l2⟩:=w1.len;rw[m2]at f2;refine(f2 (r.next w2 (FO.all (by omega) l2)) r.fo.1 w1).mono λA2 k=>⟨ws,by omega,λw hw=>(l2 w hw).up k.g.len,?_⟩
   have:=w2.trans k
   rwa [Rq]at this
  .rw[pL h8]at mT|-;have h7:e.kind=7:=by omega
   exact zjk hX h2 ps q h4 (λx hx=>⟨(dQ x hx).1,(dQ x hx).2.2,h6.sub λy hy=>by show y∈Cp.free X.N e;rw[ak];simp[h7];exact No.2 (.inl (Sr.2 (.inr ⟨x,hx,hy⟩)))⟩) mT
 obtain⟨i1,e1,r1⟩:=uE;refine⟨i1++i2,by rw[e2,e1,Np],λ{A base F0 κ B}hκ r hK hB=>OI ((r1 r).mono λA1⟨ws,w1,w2,w3⟩=>?_)⟩;have hκ0:=Pl.1 hκ;subst hκ0;have hf:=w3.fuel;refine(r2 (A:=A1) (base:=base) (F0:=F0++ws) (κ:=[]) (B:=B) rfl ?_ (hK.up w3.g.gv) (w3.g.bz hB)).mono λA2⟨c,f⟩=>⟨c,by omega⟩
 have:=r.next w3 (FO.all (kD:=texts e.names) (by omega) w2);simpa using this
theorem zq1(hX:X.cd.length<=1000000)(n:Nat):VJ X n:=by
 induction n with
 |zero=>exactλhw=>hw.1.elim
 |succ n ih=>
  intro e below q hw;have hd:=hw.1;have fN:=hd.Nf.lo;have gS:=hd.Nf.hi;by_cases h4:e.kind<=4
  .exact Vl hX hw h4
  .by_cases h5:e.kind=5
   .exact zkp hX ih hw h5
   .by_cases h6:e.kind=6
    .exact zp8 hX ih hw h6
    .by_cases h9:e.kind=9
     .exact zkq hX ih hw h9
     .by_cases hb:below=0
      .subst hb;exact znf hX ih hw (by omega)
      .exact zuQ hw (by omega) hb
end Sf
end
end Go.Proofs.YtgahgkddaljmkaaGreatDoor
