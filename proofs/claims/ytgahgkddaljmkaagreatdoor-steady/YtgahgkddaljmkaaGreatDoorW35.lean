/- Gc6 .. Sf1 -/
import Derived.Test.YtgahgkddaljmkaaGreatDoorW34
set_option maxRecDepth 100000
set_option maxHeartbeats 4000000
namespace Go.Proofs.YtgahgkddaljmkaaGreatDoor
open Tryz
namespace Ab
variable {s:Sto} {fc:List Int} {h:List Nd} {st:List Wd} {fns:List Nat} {φ:Nat->Option Nat}
variable {ws':List Int}
theorem Rel.zeV(R:Rel s fc h st fns φ){top':Nat}{st':List Wd}(hl:ws'.length=s.ws.length)(hk:∀ j,s.low<=j->j<s.free->ws'[j]?=s.ws[j]?)(iY:s.free<=top')(fg:top'+st'.length=s.low+s.half)(dY:∀ (i:Nat) (w:Wd),st'[i]?=some w->∃ x,ws'[s.low+s.half-1-i]?=some x/\RW φ h x w):Rel { s with ws:=ws',top:=top' } fc h st' fns φ:=by
 refine ⟨R.low,by simp only;rw[hl];exact R.len,by simp only;rw[hl];exact R.wl,R.lf,iY,fg,dY,R.fl,R.fn,?_,R.dis,R.ok,R.fw⟩;intro a p hp;obtain ⟨nd,h1,h2,h3,h4⟩:=R.nod a p hp;exact ⟨nd,h1,h2,h3,h4.congr (fun j j1 j2=>hk j (by omega) (by omega))⟩
variable {φ φ':Nat->Option Nat}
variable {h h':List Nd}
variable {x:Int}
variable {a:Nat}
theorem Rf.mono(h1:∀ a p,φ a=some p->φ' a=some p)(h2:∀ (a b:Nat),h[a]?=some (.fwd b)->h'[a]?=some (.fwd b))(hr:Rf φ h x a):Rf φ' h' x a:=by
 obtain ⟨p,e,hp⟩:=hr;refine ⟨p,e,?_⟩;rcases hp with hp|⟨b,hb,hp⟩
 ·exact .inl (h1 a p hp)
 ·exact .inr ⟨b,h2 a b hb,h1 b p hp⟩
theorem RW.mono{φ φ':Nat->Option Nat}{h h':List Nd}(h1:∀ a p,φ a=some p->φ' a=some p)(h2:∀ (a b:Nat),h[a]?=some (.fwd b)->h'[a]?=some (.fwd b)){x:Int}{w:Wd}(hr:RW φ h x w):RW φ' h' x w:=by
 cases w with
 |ad a=>exact Rf.mono h1 h2 hr
 |mk k b=>exact hr
theorem At.mono{ws:List Int}{φ φ':Nat->Option Nat}{h h':List Nd}(h1:∀ a p,φ a=some p->φ' a=some p)(h2:∀ (a b:Nat),h[a]?=some (.fwd b)->h'[a]?=some (.fwd b)){p:Nat}{nd:Nd}(ha:At ws φ h p nd):At ws φ' h' p nd:=by
 rcases ha with ⟨b,p',e1,e2,e3⟩|⟨e1,e2,e3,e4⟩
 ·exact .inl ⟨b,p',e1,h1 b p' e2,e3⟩
 ·refine .inr ⟨e1,e2,e3,fun i f hf=>?_⟩;obtain ⟨x,x1,x2⟩:=e4 i f hf;exact ⟨x,x1,x2.mono h1 h2⟩
def grow (φ:Nat->Option Nat) (n p:Nat):Nat->Option Nat:=fun a=>if a=n then some p else φ a
theorem Rel.grown(R:Rel s fc h st fns φ)(p:Nat):∀ a q,φ a=some q->grow φ h.length p a=some q:=by
 intro a q hq;obtain ⟨nd,h1,_⟩:=R.nod a q hq;have:=(zyL.1 h1).1;unfold grow;rw[if_neg (by omega)];exact hq
variable {nd:Nd}
theorem zhE :∀ (a b:Nat),h[a]?=some (.fwd b)->(h++[nd])[a]?=some (.fwd b):=by
 intro a b hb;rw[zzc (zyL.1 hb).1];exact hb
theorem Rel.alloc(R:Rel s fc h st fns φ)(bU:zo6 nd)(hf:zaV nd=false)(ew:s.free+sz nd<=s.top)(hl:ws'.length=s.ws.length)(hk:∀ j,(j<s.free\/s.free+sz nd<=j)->ws'[j]?=s.ws[j]?)(aV:AtC ws' (Rf (grow φ h.length s.free) (h++[nd])) s.free nd):Rel { s with ws:=ws',free:=s.free+sz nd } fc (h++[nd]) st fns (grow φ h.length s.free):=by
 have hg:=R.grown s.free;have gU:(h++[nd])[h.length]?=some nd:=by simp
 have fg:=R.tp;have jE:∀ a p,grow φ h.length s.free a=some p->(a=h.length/\p=s.free)\/φ a=some p:=by
  intro a p hp;unfold grow at hp;split at hp
  ·next e=>cases hp;exact .inl ⟨e,rfl⟩
  ·exact .inr hp
 have hold:∀ (a:Nat) (n:Nd),(h++[nd])[a]?=some n->(a=h.length/\n=nd)\/h[a]?=some n:=by
  intro a n hn;rw[zzj]at hn;split at hn
  ·exact .inr hn
  ·next nO=>
   have:=(zyL.1 hn).1;simp at this;have h1:a-h.length=0:=by omega
   rw[h1]at hn;simp at hn;exact .inl ⟨by omega,hn.symm⟩
 refine ⟨R.low,by simp only;rw[hl];exact R.len,by simp only;rw[hl];exact R.wl,by simp only;have:=R.lf;omega,ew,R.tp,?_,R.fl,?_,?_,?_,?_,?_⟩
 ·intro i w hw;have br:=(zyL.1 hw).1;obtain ⟨x,x1,x2⟩:=R.stk i w hw;exact ⟨x,by simp only;rw[hk _ (by omega)];exact x1,x2.mono hg zhE⟩
 ·intro i a ha;obtain ⟨x,x1,x2⟩:=R.fn i a ha;exact ⟨x,x1,x2.mono hg zhE⟩
 ·intro a p hp;rcases jE a p hp with ⟨rfl,rfl⟩|hp
  ·exact ⟨nd,gU,R.lf,zyN _,.inr ⟨hf,aV⟩⟩
  ·obtain ⟨n,h1,h2,h3,h4⟩:=R.nod a p hp;refine ⟨n,by rw[zzc (zyL.1 h1).1];exact h1,h2,by simp only;omega,?_⟩;exact (h4.congr (fun j j1 j2=>hk j (by omega))).mono hg zhE
 ·intro a a' p p' n n' hp lu hn gw aH;rcases jE a p hp with ⟨rfl,rfl⟩|hp
  ·rcases jE a' p' lu with ⟨rfl,rfl⟩|lu
   ·exact absurd rfl aH
   ·obtain ⟨m,h1,h2,h3,h4⟩:=R.nod a' p' lu;rcases hold a' n' gw with ⟨e,_⟩|gw
    ·exact absurd e.symm aH
    ·rw[h1]at gw;cases gw;exact .inr h3
  ·obtain ⟨m,h1,h2,h3,h4⟩:=R.nod a p hp;rcases hold a n hn with ⟨e,_⟩|hn
   ·have:=(zyL.1 h1).1;omega
   ·rw[h1]at hn;cases hn;rcases jE a' p' lu with ⟨rfl,rfl⟩|lu
    ·exact .inl h3
    ·rcases hold a' n' gw with ⟨e,_⟩|gw
     ·obtain ⟨m',g1,_⟩:=R.nod a' p' lu;have:=(zyL.1 g1).1;omega
     ·exact R.dis a a' p p' n n' hp lu h1 gw aH
 ·intro a n hn;rcases hold a n hn with ⟨_,rfl⟩|hn
  ·exact bU
  ·exact R.ok a n hn
 ·intro a b hb;rcases hold a _ hb with ⟨_,e⟩|hb
  ·rw[<-e]at hf;simp[zaV]at hf
  ·obtain ⟨m,g1,g2⟩:=R.fw a b hb;exact ⟨m,by rw[zzc (zyL.1 g1).1];exact g1,g2⟩
variable {p:Nat}
theorem Rel.zxM(R:Rel s fc h st fns φ){nd':Nd}(hp:φ a=some p)(hn:h[a]?=some nd)(jZ:zaV nd=false)(bU:zo6 nd')(hs:sz nd'<=sz nd)(hl:ws'.length=s.ws.length)(hk:∀ j,(j<p\/p+sz nd<=j)->ws'[j]?=s.ws[j]?)(aV:At ws' φ (h.set a nd') p nd')(gr:zaV nd'=true->∀ (x b:Nat),h[x]?=some (.fwd b)->b≠a)(xA:∀ b,nd'=.fwd b->b≠a/\∃ n,h[b]?=some n/\zaV n=false):Rel { s with ws:=ws' } fc (h.set a nd') st fns φ:=by
 have aU:=(zyL.1 hn).1;have fg:=R.tp;have iY:=R.ft;obtain ⟨GU,q1,q2,q3,q4⟩:=R.nod a p hp;rw[hn]at q1;cases q1;have dC:∀ (c b:Nat),h[c]?=some (.fwd b)->(h.set a nd')[c]?=some (.fwd b):=by
  intro c b hb;rw[zyV,if_neg (fun e=>by subst e;rw[hn]at hb;cases hb;simp[zaV]at jZ)];exact hb
 have aY:∀ (c:Nat) (n:Nd),(h.set a nd')[c]?=some n->(c=a/\n=nd')\/(c≠a/\h[c]?=some n):=by
  intro c n hc;rw[zyV]at hc;by_cases e:a=c
  ·rw[if_pos e,if_pos aU]at hc;cases hc;exact .inl ⟨e.symm,rfl⟩
  ·rw[if_neg e]at hc;exact .inr ⟨fun x=>e x.symm,hc⟩
 have hm:∀ c q,φ c=some q->φ c=some q:=fun _ _ x=>x
 refine ⟨R.low,by simp only;rw[hl];exact R.len,by simp only;rw[hl];exact R.wl,R.lf,R.ft,R.tp,?_,R.fl,?_,?_,?_,?_,?_⟩
 ·intro i w hw;have br:=(zyL.1 hw).1;obtain ⟨x,x1,x2⟩:=R.stk i w hw;exact ⟨x,by simp only;rw[hk _ (by omega)];exact x1,x2.mono hm dC⟩
 ·intro i c hc;obtain ⟨x,x1,x2⟩:=R.fn i c hc;exact ⟨x,x1,x2.mono hm dC⟩
 ·intro c q hq;by_cases e:c=a
  ·subst e;rw[hp]at hq;cases hq;exact ⟨nd',by rw[zyV,if_pos rfl,if_pos aU],q2,by simp only;omega,aV⟩
  ·obtain ⟨n,h1,h2,h3,h4⟩:=R.nod c q hq;have hd:=R.dis c a q p n nd hq hp h1 hn e;refine ⟨n,by rw[zyV,if_neg (fun x=>e x.symm)];exact h1,h2,h3,(h4.congr (fun j j1 j2=>hk j (by omega))).mono hm dC⟩
 ·intro c c' q q' n n' hq lx hc eV aH;rcases aY c n hc with ⟨e1,e2⟩|⟨e,bH⟩
  ·subst e1 e2;rcases aY c' n' eV with ⟨e3,_⟩|⟨e',bT⟩
   ·exact absurd e3.symm aH
   ·have h9:=R.dis c c' q q' nd n' hq lx hn bT aH;rw[hp]at hq;cases hq;omega
  ·rcases aY c' n' eV with ⟨e3,e4⟩|⟨e',bT⟩
   ·subst e3 e4;have h9:=R.dis c c' q q' n nd hq lx bH hn aH;omega
   ·exact R.dis c c' q q' n n' hq lx bH bT aH
 ·intro c n hc;rcases aY c n hc with ⟨_,rfl⟩|⟨_,hc⟩
  ·exact bU
  ·exact R.ok c n hc
 ·intro c b hb;rcases aY c _ hb with ⟨_,e⟩|⟨_,aA⟩
  ·obtain ⟨h1,n,h2,h3⟩:=xA b e.symm;exact ⟨n,by rw[zyV,if_neg (fun x=>h1 x.symm)];exact h2,h3⟩
  ·obtain ⟨n,h2,h3⟩:=R.fw c b aA;by_cases e:b=a
   ·refine ⟨nd',by rw[e,zyV,if_pos rfl,if_pos aU],?_⟩;cases hx:zaV nd' with
    |false=>rfl
    |true=>exact absurd e (gr hx c b aA)
   ·exact ⟨n,by rw[zyV,if_neg (fun x=>e x.symm)];exact h2,h3⟩
variable {s:Sto} {fc:List Int} {h:List Nd} {st:List Wd} {fns:List Nat} {φ:Nat->Option Nat}
theorem Rel.hi(R:Rel s fc h st fns φ):s.low+s.half<=s.ws.length:=by
 have h1:=R.low;have h2:=R.len;omega
theorem Rel.word(R:Rel s fc h st fns φ){d:Nat}(hd:d<st.length):∃ w x,st[st.length-1-d]?=some w/\s.ws[s.top+d]?=some x/\RW φ h x w:=by
 have fg:=R.tp;obtain ⟨w,hw⟩:∃ w,st[st.length-1-d]?=some w:=⟨_,zyM (by omega)⟩;obtain ⟨x,x1,x2⟩:=R.stk _ w hw;rw[show s.low+s.half-1-(st.length-1-d)=s.top+d by omega]at x1;exact ⟨w,x,hw,x1,x2⟩
variable {w:Wd}
theorem zc5(R:Rel s fc h st fns φ)(ew:s.free+1<=s.top)(hw:RW φ h x w):s.push x=some { s with top:=s.top-1,ws:=s.ws.set (s.top-1) x }/\Rel { s with top:=s.top-1,ws:=s.ws.set (s.top-1) x } fc h (st++[w]) fns φ:=by
 have fg:=R.tp;have gS:=R.hi;refine ⟨?_,?_⟩
 ·unfold Sto.push;rw[if_pos (by omega)]
 ·refine R.zeV (ws':=s.ws.set (s.top-1) x) (top':=s.top-1) (by simp) (fun j h1 h2=>by rw[zyV,if_neg (by omega)]) (by omega) (by simp;omega) (fun i w' fY=>?_);rw[zzj]at fY;split at fY
  ·next br=>
   obtain ⟨y,y1,y2⟩:=R.stk i w' fY;exact ⟨y,by rw[zyV,if_neg (by omega)];exact y1,y2⟩
  ·next br=>
   have:=(zyL.1 fY).1;simp at this;have h1:i-st.length=0:=by omega
   rw[h1]at fY;simp at fY;subst fY;refine ⟨x,?_,hw⟩;rw[show s.low+s.half-1-i=s.top-1 by omega,zyV,if_pos rfl,if_pos (by omega)]
variable {c:Nat}
theorem zhQ(R:Rel s fc h st fns φ)(hc:c<=st.length):s.pop c=some { s with top:=s.top+c }/\Rel { s with top:=s.top+c } fc h (st.take (st.length-c)) fns φ:=by
 have fg:=R.tp;have gS:=R.hi;have eE:=R.wl;have iY:=R.ft;refine ⟨?_,?_⟩
 ·unfold Sto.pop;rw[if_pos (by omega)]
 ·refine R.zeV (ws':=s.ws) (top':=s.top+c) rfl (fun j _ _=>rfl) (by omega) (by rw[zzf];omega) (fun i w hw=>?_);rw[zzy]at hw;split at hw
  ·exact R.stk i w hw
  ·cases hw
theorem zmy(R:Rel s fc h st fns φ){xs:List Int}(bU:zo6 nd)(hf:zaV nd=false)(ew:s.free+sz nd<=s.top)(dk:xs.length+1=sz nd)(xS:∀ v,nd=.num v->xs[0]?=some v)(bZ:∀ (i f:Nat),(zdd nd)[i]?=some f->∃ x,xs[i]?=some x/\Rf (grow φ h.length s.free) (h++[nd]) x f):
  s.node (hdr nd) xs=some { s with free:=s.free+sz nd,ws:=Go.splice (s.ws.set s.free (hdr nd)) (s.free+1) xs }/\Rel { s with free:=s.free+sz nd,ws:=Go.splice (s.ws.set s.free (hdr nd)) (s.free+1) xs } fc (h++[nd]) st fns (grow φ h.length s.free):=by
 have fg:=R.tp;have gS:=R.hi;have aK:(Go.splice (s.ws.set s.free (hdr nd)) (s.free+1) xs).length=s.ws.length:=by rw[zzM _ _ _ (by rw[zy6];omega),zy6]
 have aY:∀ j,(Go.splice (s.ws.set s.free (hdr nd)) (s.free+1) xs)[j]?=if j=s.free then some (hdr nd) else if s.free<j/\j<s.free+sz nd then xs[j-(s.free+1)]? else s.ws[j]?:=by
  intro j;rw[zbu _ _ _ _ (by rw[zy6];omega)];by_cases h1:j=s.free
  ·rw[if_pos (by omega),if_pos h1,h1,zyV,if_pos rfl,if_pos (by omega)]
  ·have cS:(s.ws.set s.free (hdr nd))[j]?=s.ws[j]?:=by rw[zyV,if_neg (fun e=>h1 e.symm)]
   rw[if_neg h1];by_cases h2:j<s.free+1
   ·rw[if_pos h2,if_neg (by omega),cS]
   ·rw[if_neg h2];by_cases h3:j<s.free+1+xs.length
    ·rw[if_pos h3,if_pos (by omega)]
    ·rw[if_neg h3,if_neg (by omega),cS]
 have hs:=zhd nd;refine ⟨?_,?_⟩
 ·unfold Sto.node;rw[if_pos (by omega)];congr 2;omega
 ·refine R.alloc bU hf ew aK (fun j hj=>by rw[aY,if_neg (by omega),if_neg (by omega)]) ⟨by rw[aY,if_pos rfl],fun v hv=>?_,fun i f hf=>?_⟩
  ·have h2:sz nd=2:=by rw[hv];rfl
   rw[aY,if_neg (by omega),if_pos (by omega),show s.free+1-(s.free+1)=0 by omega];exact xS v hv
  ·obtain ⟨x,x1,x2⟩:=bZ i f hf;have:=(zyL.1 x1).1;exact ⟨x,by rw[aY,if_neg (by omega),if_pos (by omega),show s.free+1+i-(s.free+1)=i by omega];exact x1,x2⟩
def zwL:List Wd->Option (List Nat)
 |[]=>some []
 |.ad a::l=>(zwL l).map (a::·)
 |.mk _ _::_=>none
theorem zqg:∀ {l:List Wd} {fs:List Nat},zwL l=some fs->fs.length=l.length/\∀ (i f:Nat),fs[i]?=some f->l[i]?=some (.ad f)
 |[],fs,h=>by simp[zwL]at h;subst h;simp
 |.ad a::l,fs,h=>by
  rw[zwL]at h;simp only[zyX]at h;obtain ⟨r,h1,rfl⟩:=h;obtain ⟨e1,e2⟩:=zqg h1;refine ⟨by simp[e1],fun i f hf=>?_⟩;cases i with
  |zero=>simp at hf;simp[hf]
  |succ i=>simpa using e2 i f (by simpa using hf)
 |.mk _ _::l,fs,h=>by simp[zwL]at h
def zlT (st:List Wd) (c:Nat):Option (List Nat):=if c<=st.length then zwL (st.drop (st.length-c)).reverse else none
variable {fs:List Nat}
theorem ziX{st:List Wd}(ht:zlT st c=some fs):c<=st.length/\fs.length=c/\∀ (i f:Nat),fs[i]?=some f->st[st.length-1-i]?=some (.ad f):=by
 unfold zlT at ht;split at ht
 ·next hc=>
  obtain ⟨e1,e2⟩:=zqg ht;have hl:fs.length=c:=by rw[e1];simp;omega
  refine ⟨hc,hl,fun i f hf=>?_⟩;have br:=(zyL.1 hf).1;have:=e2 i f hf;rw[List.getElem?_reverse (by simp;omega),zzx]at this;rw[<-this];congr 1;simp;omega
 ·cases ht
theorem Rel.zlT(R:Rel s fc h st fns φ){c:Nat}{fs:List Nat}(ht:zlT st c=some fs):(s.words s.top c).length=c/\∀ (i f:Nat),fs[i]?=some f->∃ x,(s.words s.top c)[i]?=some x/\Rf φ h x f:=by
 obtain ⟨h1,h2,h3⟩:=ziX ht;have fg:=R.tp;have gS:=R.hi;unfold Sto.words;refine ⟨by rw[zzf,zzu];omega,fun i f hf=>?_⟩;have br:=(zyL.1 hf).1;obtain ⟨w,x,w1,w2,w3⟩:=R.word (d:=i) (by omega);rw[h3 i f hf]at w1;cases w1;exact ⟨x,by rw[zzy,if_pos (by omega),zzx];exact w2,w3⟩
theorem Rel.zfo(R:Rel s fc h st fns φ)(hr:Rf φ h x a)(hn:h[a]?=some nd)(hf:zaV nd=false):∃ p:Nat,x=p/\φ a=some p/\s.low<=p/\p+sz nd<=s.free/\AtC s.ws (Rf φ h) p nd:=by
 obtain ⟨p,rfl,hp⟩:=hr;rcases hp with hp|⟨b,hb,_⟩
 ·obtain ⟨n,h1,h2,h3,h4⟩:=R.nod a p hp;rw[hn]at h1;cases h1;rcases h4 with ⟨b,p',e,_⟩|⟨_,h5⟩
  ·rw[e]at hf;simp[zaV]at hf
  ·exact ⟨p,rfl,hp,h2,h3,h5⟩
 ·rw[hn]at hb;cases hb;simp[zaV]at hf
theorem AtC.head{ws:List Int}{ρ:Int->Nat->Prop}{p:Nat}{nd:Nd}(h:AtC ws ρ p nd)(bU:zo6 nd){s:Sto}(hw:s.ws=ws):s.head p=some (hdr nd):=by
 obtain ⟨r1,r2⟩:=zde bU;unfold Sto.head;rw[hw,h.1];simp only;rw[if_neg (by omega)]
theorem AtC.fields{s:Sto}{ρ:Int->Nat->Prop}(h:AtC s.ws ρ p nd)(hl:p+1+(zdd nd).length<=s.ws.length):(s.words (p+1) (zdd nd).length).length=(zdd nd).length/\∀ (i f:Nat),(zdd nd)[i]?=some f->∃ x,(s.words (p+1) (zdd nd).length)[i]?=some x/\ρ x f:=by
 unfold Sto.words;refine ⟨by rw[zzf,zzu];omega,fun i f hf=>?_⟩;have br:=(zyL.1 hf).1;obtain ⟨x,x1,x2⟩:=h.2.2 i f hf;exact ⟨x,by rw[zzy,if_pos (by omega),zzx];exact x1,x2⟩
theorem zgq(R:Rel s fc h st fns φ){xs:List Int}(hl:xs.length=fs.length)(ew:s.free+xs.length<=s.top)(hx:∀ (i f:Nat),fs[i]?=some f->∃ x,xs[i]?=some x/\Rf φ h x f):
  s.zek xs=some { s with top:=s.top-xs.length,ws:=Go.splice s.ws (s.top-xs.length) xs }/\Rel { s with top:=s.top-xs.length,ws:=Go.splice s.ws (s.top-xs.length) xs } fc h (st++(fs.map Wd.ad).reverse) fns φ:=by
 have fg:=R.tp;have gS:=R.hi;refine ⟨?_,?_⟩
 ·unfold Sto.zek;rw[if_pos (by omega)]
 ·refine R.zeV (ws':=Go.splice s.ws (s.top-xs.length) xs) (top':=s.top-xs.length) (zzM _ _ _ (by omega)) (fun j h1 h2=>by rw[zbu _ _ _ _ (by omega),if_pos (by omega)]) (by omega) (by simp;omega) (fun i w hw=>?_);rw[zbu _ _ _ _ (by omega)];rw[zzj]at hw;split at hw
  ·next br=>
   obtain ⟨y,y1,y2⟩:=R.stk i w hw;exact ⟨y,by rw[if_neg (by omega),if_neg (by omega)];exact y1,y2⟩
  ·next br=>
   have aj:=(zyL.1 hw).1;simp at aj;rw[List.getElem?_reverse (by simp;omega)]at hw;simp only[List.length_map,List.getElem?_map,zyX]at hw;obtain ⟨f,hf,rfl⟩:=hw;obtain ⟨x,x1,x2⟩:=hx _ f hf;refine ⟨x,?_,x2⟩;rw[if_neg (by omega),if_pos (by omega),show s.low+s.half-1-i-(s.top-xs.length)=fs.length-1-(i-st.length) by omega];exact x1
end Ab
end Go.Proofs.YtgahgkddaljmkaaGreatDoor
namespace Go.Proofs.YtgahgkddaljmkaaGreatDoor
open Tryz
namespace Ab
open Classical in
noncomputable def ask (hf k:Nat) (A:Ma) (f:Ma->Option (Except Nat Ma)):Option (Except Nat Ma):=if Fits hf A k then f A else some (.error 4)
def zcE (st:List Wd) (c:Nat):List Wd:=st.take (st.length-c)
def okA (A:Ma):Option (Except Nat Ma):=some (.ok A)
noncomputable def Ma.zau (hf:Nat) (v:Int) (A:Ma):Option (Except Nat Ma):=ask hf 3 A fun A=>okA { A with h:=A.h++[.num v],st:=A.st++[.ad A.h.length] }
noncomputable def Ma.mkN (hf:Nat) (nd:List Nat->Nd) (c:Nat) (A:Ma):Option (Except Nat Ma):=ask hf (c+2) A fun A=>
 match zlT A.st c with
 |none=>none
 |some fs=>okA { A with h:=A.h++[nd fs],st:=zcE A.st c++[.ad A.h.length] }
noncomputable def Ma.zn5 (hf t c:Nat) (A:Ma):Option (Except Nat Ma):=if t<=1000000000/\c<4096 then A.mkN hf (.data t) c else none
noncomputable def Ma.zpH (hf b c:Nat) (A:Ma):Option (Except Nat Ma):=if b<=1000000000/\c<4096 then A.mkN hf (.clo b) c else none
noncomputable def Ma.hold (hf b c:Nat) (A:Ma):Option (Except Nat Ma):=if b<=1000000000/\c<4096 then ask hf (c+2) A fun A=>okA { A with h:=A.h++[.clo b (List.replicate c A.h.length)],st:=A.st++[.ad A.h.length] } else none
noncomputable def Ma.zjF (hf:Nat) (w:Ma->Option Wd) (A:Ma):Option (Except Nat Ma):=ask hf 1 A fun A=>
 match w A with
 |none=>none
 |some w=>okA { A with st:=A.st++[w] }
def Ma.slot (A:Ma) (k:Nat):Option Wd:=if 0<=A.below then A.st[A.below.toNat+k]? else none
def Ma.fill (k c:Nat) (A:Ma):Option (Except Nat Ma):=
 match A.slot k with
 |some (.ad a)=>
  match A.h[a]? with
  |some (.clo b fs)=>if fs.length=c then (match zlT A.st c with|none=>none|some gs=>okA { A with h:=A.h.set a (.clo b gs),st:=zcE A.st c }) else none
  |_=>none
 |_=>none
def Ma.zci (c:Nat) (A:Ma):Option Ma:=if 0<=A.below/\A.below.toNat+c<=A.st.length then some { A with st:=A.st.take A.below.toNat++A.st.drop (A.st.length-c) } else none
def Ma.zdW (A:Ma) (d:Nat):Option (Except Nat Int):=
 if d<A.st.length then
  match A.st[A.st.length-1-d]? with
  |some (.ad a)=>
   match A.h[a]? with
   |some (.num v)=>some (.ok v)
   |some (.data _ _)=>some (.error 3)
   |some (.clo _ _)=>some (.error 3)
   |_=>none
  |_=>none
 else none
noncomputable def Ma.zww (hf:Nat) (b:Bool) (A:Ma):Option (Except Nat Ma):=A.mkN hf (fun _=>.data (if b then 2 else 1) []) 0
noncomputable def Ma.calc (hf:Nat) (sg:ByteArray) (l r:Int) (A:Ma):Option (Except Nat Ma):=
 if sg=⟨#[43]⟩ then A.zau hf (IntKind.i64.wrap (l+r)) else
 if sg=⟨#[45]⟩ then A.zau hf (IntKind.i64.wrap (l-r)) else
 if sg=⟨#[42]⟩ then A.zau hf (IntKind.i64.wrap (l*r)) else
 if sg=⟨#[47]⟩ then (if r=0 then some (.error 3) else A.zau hf (IntKind.i64.wrap (Int.tdiv l r))) else
 if sg=⟨#[60]⟩ then A.zww hf (decide (l<r)) else
 if sg=⟨#[61,61]⟩ then A.zww hf (decide (l=r)) else none
noncomputable def Ma.compute (hf:Nat) (sg:ByteArray) (A:Ma):Option (Except Nat Ma):=
 match A.zdW 0 with
 |none=>none
 |some (.error k)=>some (.error k)
 |some (.ok r)=>
  match A.zdW 1 with
  |none=>none
  |some (.error k)=>some (.error k)
  |some (.ok l)=>Ma.calc hf sg l r { A with st:=zcE A.st 2 }
noncomputable def Ma.zdy (hf a b:Nat) (fs:List Nat) (A:Ma):Option (Except Nat Ma):=ask hf (1+fs.length) A fun A=>okA { A with h:=A.h.set a .busy,st:=A.st++[.mk 0 0]++(fs.map Wd.ad).reverse,next:=b }
noncomputable def Ma.extend (hf b c:Nat) (fs:List Nat) (A:Ma):Option (Except Nat Ma):=ask hf (1+fs.length+c) A fun A=>
 if fs.length+c<4096/\1<=c then
  match zlT (zcE A.st 2) c with
  |none=>none
  |some gs=>okA { A with h:=A.h++[.clo b (fs++gs)],st:=zcE A.st (2+c)++[.ad A.h.length] }
 else none
def leave (st:List Wd) (lk lf:Nat):List Wd:=if lf=0 then st else st.take (st.length-lk)++[.mk 2 lf]++st.drop (st.length-lk)
noncomputable def Ma.call (hf b lk lf:Nat) (fs:List Nat) (A:Ma):Option (Except Nat Ma):=ask hf fs.length A fun A=>
 if 2+lk<=A.st.length/\lf<=1000000 then okA { A with st:=leave (zcE A.st 2) lk lf++(fs.map Wd.ad).reverse,next:=b } else none
noncomputable def Ma.za5 (hf:Nat) (sl:List Nat) (c:Nat) (A:Ma):Option (Except Nat (Bool × Ma)):=
 match A.st.getLast? with
 |some (.ad a)=>
  match A.h[a]? with
  |some (.num _)=>some (.error 3)
  |some (.data _ _)=>some (.error 3)
  |some (.clo b fs)=>
   match sl[b]? with
   |none=>none
   |some n=>if n<fs.length then none else
    if c<n-fs.length then (match A.extend hf b c fs with|none=>none|some (.error k)=>some (.error k)|some (.ok A')=>some (.ok (false,A')))
    else if 2000000<c then none
    else (match A.call hf b (n-fs.length) (c-(n-fs.length)) fs with|none=>none|some (.error k)=>some (.error k)|some (.ok A')=>some (.ok (true,A')))
  |_=>none
 |_=>none
noncomputable def Ma.za1 (hf:Nat) (sl:List Nat):Nat->Ma->Option (Except Nat Ma)
 |0,_=>none
 |g+1,A=>
  if A.st.length<=1 then okA { A with next:=-1 } else
  match A.st[A.st.length-2]? with
  |some (.mk k b)=>
   if 1000000000<=b then none else
   if k=0 then
    match A.st[A.st.length-1]? with
    |some (.ad v)=>
     if 3<=A.st.length then
     match A.st[A.st.length-3]? with
     |some (.ad c)=>
      match A.h[c]?,A.h[v]? with
      |some .busy,some (.num _)=>Ma.za1 hf sl g { A with h:=A.h.set c (.fwd v),st:=zcE A.st 3++[.ad v] }
      |some .busy,some (.data _ _)=>Ma.za1 hf sl g { A with h:=A.h.set c (.fwd v),st:=zcE A.st 3++[.ad v] }
      |some .busy,some (.clo b fs)=>if (∃ n,sl[b]?=some n/\fs.length<n) then Ma.za1 hf sl g { A with h:=A.h.set c (.fwd v),st:=zcE A.st 3++[.ad v] } else none
      |_,_=>none
     |_=>none
     else none
    |_=>none
   else if k=1 then
    match A.st[A.st.length-1]? with
    |some (.ad v)=>okA { A with st:=zcE A.st 2++[.ad v],next:=b }
    |_=>none
   else if k=2 then
    match A.za5 hf sl b with
    |none=>none
    |some (.error j)=>some (.error j)
    |some (.ok q)=>if q.1=true then okA q.2 else Ma.za1 hf sl g q.2
   else none
  |_=>none
noncomputable def Ma.enter (hf:Nat) (sl:List Nat) (A:Ma):Option (Except Nat Ma):=
 match A.st.getLast? with
 |some (.ad a)=>
  let A1:Ma:={ A with st:=zcE A.st 1++[.ad (can A.h a)] }
  match A.h[can A.h a]? with
  |some .busy=>some (.error 5)
  |some (.num _)=>A1.za1 hf sl (A.st.length+1)
  |some (.data _ _)=>A1.za1 hf sl (A.st.length+1)
  |some (.clo b fs)=>
   match sl[b]? with
   |none=>none
   |some n=>if n=fs.length then A1.zdy hf (can A.h a) b fs else if fs.length<n then A1.za1 hf sl (A.st.length+1) else none
  |_=>none
 |_=>none
noncomputable def Ma.zcc (hf t:Nat) (fs:List Nat) (A:Ma):List (Nat × Nat × Nat)->Option (Except Nat Ma)
 |[]=>some (.error 3)
 |(u,c,b)::l=>if u=t then (if c=fs.length then ask hf c A fun A=>okA { A with st:=zcE A.st 1++(fs.map Wd.ad).reverse,next:=b } else some (.error 3)) else Ma.zcc hf t fs A l
noncomputable def Ma.choose (hf:Nat) (zao:List (Nat × Nat × Nat)) (A:Ma):Option (Except Nat Ma):=
 match A.st.getLast? with
 |some (.ad a)=>
  match A.h[a]? with
  |some (.data t fs)=>A.zcc hf t fs zao
  |some (.num _)=>some (.error 3)
  |some (.clo _ _)=>some (.error 3)
  |_=>none
 |_=>none
noncomputable def Ma.step (hf:Nat) (sl:List Nat) (A:Ma):Ins->Option (Except Nat Ma)
 |.push k=>A.zjF hf fun A=>A.slot k
 |.zcW f=>A.zjF hf fun A=>(A.fns[f]?).map Wd.ad
 |.num x=>A.zau hf x
 |.pack t c=>A.zn5 hf t c
 |.close b c=>A.zpH hf b c
 |.hold b c=>A.hold hf b c
 |.fill k c=>A.fill k c
 |.wait b=>if b<=1000000000 then A.zjF hf fun _=>some (.mk 1 b) else none
 |.zbF c=>if c<=1000000000 then A.zjF hf fun _=>some (.mk 2 c) else none
 |.zci c=>(A.zci c).map .ok
 |.zbX=>(A.zdW 0).map fun q=>q.map fun _=>A
 |.comp sg=>A.compute hf sg
 |.enter=>A.enter hf sl
 |.jump b=>okA { A with next:=b }
 |.choose zao=>A.choose hf zao
noncomputable def Ma.zbb (hf:Nat) (sl:List Nat):List Ins->Ma->Option (Except Nat Ma)
 |[],A=>okA A
 |i::l,A=>if A.fuel=0 then some (.error 5) else
  match Ma.step hf sl { A with fuel:=A.fuel-1 } i with
  |none=>none
  |some (.error k)=>some (.error k)
  |some (.ok A2)=>Ma.zbb hf sl l A2
noncomputable def Ma.work (hf:Nat) (cd:List (Nat × List Ins)):Nat->Ma->Option (Except Nat Ma)
 |0,_=>none
 |g+1,A=>
  if A.next=-1 then okA A else
  if A.next<0 then none else
  match cd[A.next.toNat]? with
  |none=>none
  |some (n,is)=>
   match Ma.zbb hf (cd.map Prod.fst) is { A with below:=(A.st.length:Int)-n } with
   |none=>none
   |some (.error k)=>some (.error k)
   |some (.ok A2)=>Ma.work hf cd g A2
noncomputable def Ma.zbm (hf:Nat):Nat->Nat->Ma->Option (Except Nat Ma)
 |_,0,A=>okA A
 |i,k+1,A=>if i<=1000000000 then ask hf 1 A fun A=>Ma.zbm hf (i+1) k { A with h:=A.h++[.clo i []],fns:=A.fns++[A.h.length] } else none
noncomputable def Ma.start (hf:Nat) (sl:List Nat) (nf main:Nat) (A:Ma):Option (Except Nat Ma):=
 match A.zbm hf 0 nf with
 |none=>none
 |some (.error k)=>some (.error k)
 |some (.ok A1)=>ask hf 1 A1 fun A2=>
  match A2.fns[main]? with
  |none=>none
  |some a=>Ma.enter hf sl { A2 with st:=A2.st++[.ad a] }
def Ma.told (A:Ma):Option (Int × Int × Int × Int):=
 match A.st.getLast? with
 |some (.ad a)=>
  match A.h[a]? with
  |some (.num v)=>some (1,v,0,0)
  |some (.data t fs)=>some (2,0,t,fs.length)
  |some (.clo _ _)=>some (3,0,0,0)
  |_=>none
 |_=>none
def Ma.new (fuel:Nat):Ma:=⟨[],[],[],fuel,0,0⟩
noncomputable def zwX (hf:Nat) (cd:List (Nat × List Ins)) (nf main fuel g:Nat):Option (Int × Int × Int × Int):=
 match (Ma.new fuel).start hf (cd.map Prod.fst) nf main with
 |none=>none
 |some (.error k)=>some (k,0,0,0)
 |some (.ok A1)=>
  match Ma.work hf cd g A1 with
  |none=>none
  |some (.error k)=>some (k,0,0,0)
  |some (.ok A2)=>A2.told
def zaS (sl:List Nat) (hf:Nat) (c:Option (Except Nat MSt)) (a:Option (Except Nat Ma)):Prop:=∀ r,a=some r ->
 match r with
 |.error k=>c=some (.error k)
 |.ok A'=>∃ m' φ',c=some (.ok m')/\MR sl hf m' A' φ'
theorem zaS.none(sl:List Nat)(hf:Nat)(c:Option (Except Nat MSt)):zaS sl hf c none:=fun _ h=>by cases h
theorem zaS.error(sl:List Nat)(hf k:Nat):zaS sl hf (some (.error k)) (some (.error k)):=fun _ h=>by cases h;rfl
theorem zaS.ok{sl:List Nat}{hf:Nat}{m:MSt}{A:Ma}{φ:Nat->Option Nat}(h:MR sl hf m A φ):zaS sl hf (some (.ok m)) (okA A):=fun _ e=>by cases e;exact ⟨m,φ,rfl,h⟩
variable {hf k:Nat}
variable {A:Ma}
variable {φ:Nat->Option Nat}
theorem zcS{sl:List Nat}{m:MSt}(M:MR sl hf m A φ){f:MSt->Option (Except Nat MSt)}{g:Ma->Option (Except Nat Ma)}(Er:∀ m' φ',MR sl hf m' A φ'->m'.s.free+k<=m'.s.top->m'.o=m.o->zaS sl hf (f m') (g A)):zaS sl hf (aft (m.zdI k) f) (ask hf k A g):=by
 unfold ask aft;rcases zvU (k:=k) M with ⟨h1,m',φ',h2,h3,h4,h5⟩|⟨h1,h2⟩
 ·rw[if_pos h1,h2];exact Er m' φ' h3 h4 h5
 ·rw[if_neg h1,h2];exact zaS.error _ _ _
end Ab
end Go.Proofs.YtgahgkddaljmkaaGreatDoor
namespace Go.Proofs.YtgahgkddaljmkaaGreatDoor
open Tryz
namespace Sf
open Ab
def Ok (r:Option (Except Nat Ma)) (P:Ma->Prop):Prop:=(∃ j,r=some (.error j))\/∃ A,r=some (.ok A)/\P A
variable {A:Ma}
variable {P:Ma->Prop}
theorem Ok.done(h:P A):Ok (okA A) P:=.inr ⟨A,rfl,h⟩
theorem Ok.mono{r:Option (Except Nat Ma)}{Q:Ma->Prop}(h:Ok r P)(k:∀ A,P A->Q A):Ok r Q:=by
 rcases h with h|⟨A,h,p⟩
 ·exact .inl h
 ·exact .inr ⟨A,h,k A p⟩
variable {hf k:Nat}
theorem zgM{f:Ma->Option (Except Nat Ma)}(h:Ok (f A) P):Ok (Ab.ask hf k A f) P:=by
 unfold Ab.ask;split
 ·exact h
 ·exact .inl ⟨4,rfl⟩
theorem zwO{A1:Ma}{f:Ma->Option (Except Nat Ma)}(h:f A=okA A1):Ab.ask hf k A f=some (.error 4)\/Ab.ask hf k A f=okA A1:=by
 unfold Ab.ask;split
 ·exact .inr h
 ·exact .inl rfl
def Ad (h:List Nd) (w:Wd):Prop:=∃ a,w=.ad a/\a<h.length
structure Sys where
 hf:Nat
 sl:List Nat
 nf:Nat
 RB:List Nd->List Wd->Nat->Prop
 CB:Nat->Nat->Prop
 cb:∀ b n,CB b n->sl[b]?=some n/\n<4096/\∀ h F,F.length=n->(∀ w∈F,Ad h w)->RB h F b
variable {Y:Sys} {h h':List Nd} {A:Ma} {S:List Wd} {B:List Nat}
def Vd (sl:List Nat) (h:List Nd) (a:Nat):Prop:=∃ nd,h[a]?=some nd/\val sl nd
def Gv (Y:Sys) (h h':List Nd):Prop:=h.length<=h'.length/\∀ a,Vd Y.sl h a->Vd Y.sl h' a
def NT (Y:Sys) (h:List Nd):Nd->Prop
 |.num _=>True
 |.data _ fs=>∀ f∈fs,f<h.length
 |.clo b fs=>(∀ f∈fs,f<h.length)/\∃ n,fs.length<=n/\Y.CB b n
 |.busy=>True
 |.fwd b=>Vd Y.sl h b
def HT (Y:Sys) (h:List Nd):Prop:=∀ (a:Nat) (nd:Nd),h[a]?=some nd->NT Y h nd
variable {w:Wd}
theorem Ad.up(k:Ad h w)(l:h.length<=h'.length):Ad h' w:=by
 obtain ⟨a,e,k⟩:=k;exact ⟨a,e,by omega⟩
theorem Gv.refl(h:List Nd):Gv Y h h:=⟨zyN _,fun _ k=>k⟩
theorem Gv.trans{h2:List Nd}(g:Gv Y h h')(k:Gv Y h' h2):Gv Y h h2:=⟨zyR g.1 k.1,fun a p=>k.2 a (g.2 a p)⟩
variable {nd:Nd}
theorem NT.up(g:Gv Y h h')(k:NT Y h nd):NT Y h' nd:=by
 cases nd with
 |num v=>exact k
 |data t fs=>exact fun f hf=>zyS (k f hf) g.1
 |clo b fs=>exact ⟨fun f hf=>zyS (k.1 f hf) g.1,k.2⟩
 |busy=>exact k
 |fwd b=>exact g.2 b k
theorem Gv.app(nd:Nd):Gv Y h (h++[nd]):=⟨by simp,fun a ⟨n,k1,k2⟩=>⟨n,by rw[zzc (zyL.1 k1).1];exact k1,k2⟩⟩
theorem Gv.set{a:Nat}{o nd:Nd}(k:h[a]?=some o)(kv:val Y.sl o->val Y.sl nd):Gv Y h (h.set a nd):=by
 refine ⟨by simp,fun c ⟨n,k1,k2⟩=>?_⟩;by_cases e:a=c
 ·subst e;rw[k]at k1;cases k1;exact ⟨nd,by rw[zyV,if_pos rfl,if_pos (zyL.1 k).1],kv k2⟩
 ·exact ⟨n,by rw[zyV,if_neg e];exact k1,k2⟩
theorem HT.app(k:HT Y h){nd:Nd}(kn:NT Y (h++[nd]) nd):HT Y (h++[nd]):=by
 intro a n e;rw[zzj]at e;split at e
 ·exact (k a n e).up (Gv.app nd)
 ·have:=zy1 e;rw[zze]at this;subst this;exact kn
theorem HT.set(k:HT Y h){a:Nat}{nd:Nd}(g:Gv Y h (h.set a nd))(kn:NT Y (h.set a nd) nd):HT Y (h.set a nd):=by
 intro c n e;rw[zyV]at e;split at e
 ·split at e
  ·cases e;exact kn
  ·cases e
 ·exact (k c n e).up g
inductive K (Y:Sys) (h:List Nd):List Wd->List Nat->Prop
 |nil:K Y h [] []
 |upd {S:List Wd} {B:List Nat} {c:Nat}:K Y h S B->K Y h (S++[.ad c,.mk 0 0]) (c::B)
 |wait {S F:List Wd} {B:List Nat} {b:Nat}:K Y h S B->b<1000000000->(∀ h' v,Gv Y h h'->Vd Y.sl h' v->Y.RB h' (F++[.ad v]) b)->K Y h (S++(F++[.mk 1 b])) B
 |args {S ws:List Wd} {B:List Nat}:K Y h S B->(∀ w∈ws,Ad h w)->1<=ws.length->ws.length<=1300->K Y h (S++(ws++[.mk 2 ws.length])) B
theorem K.up(g:Gv Y h h')(k:K Y h S B):K Y h' S B:=by
 induction k with
 |nil=>exact .nil
 |upd _ ih=>exact .upd ih
 |wait _ hb hr ih=>exact .wait ih hb (fun h2 v g2 hv=>hr h2 v (g.trans g2) hv)
 |args _ hw h1 h2 ih=>exact .args ih (fun w hm=>(hw w hm).up g.1) h1 h2
def BZ (h:List Nd) (B:List Nat):Prop:=B.Nodup/\∀ c∈B,h[c]?=some .busy
def Good (Y:Sys) (A:Ma):Prop:=HT Y A.h/\A.fns=List.range Y.nf/\Y.nf<=A.h.length
def Cf (Y:Sys) (A:Ma):Prop:=Good Y A/\∃ S B F,A.st=S++F/\K Y A.h S B/\BZ A.h B/\((∃ b:Nat,A.next=b/\Y.RB A.h F b)\/(A.next=-1/\∃ v,F=[.ad v]/\Vd Y.sl A.h v))
theorem zwM:∀ {ws:List Wd},(∀ w∈ws,Ad h w)->∃ fs:List Nat,ws=(fs.map Wd.ad).reverse/\fs.length=ws.length/\∀ f∈fs,f<h.length
 |[],_=>⟨[],rfl,rfl,by simp⟩
 |w::ws,k=>by
  obtain ⟨a,rfl,ha⟩:=k w (by simp);obtain ⟨fs,rfl,_,e3⟩:=zwM (ws:=ws) (fun x hx=>k x (by simp[hx]));refine ⟨fs++[a],by simp,by simp,fun f hf=>?_⟩;rcases zzi.1 hf with hf|hf
  ·exact e3 f hf
  ·rw[zze.1 hf];exact ha
theorem zqh:∀ (fs:List Nat),zwL (fs.map Wd.ad)=some fs
 |[]=>rfl
 |f::fs=>by rw[zza,zwL,zqh fs];rfl
theorem zef(st ws:List Wd):zcE (st++ws) ws.length=st:=by
 unfold zcE;rw[show (st++ws).length-ws.length=st.length by simp,List.take_left]
theorem zm9(st:List Wd){ws:List Wd}(k:∀ w∈ws,Ad h w):∃ fs,zlT (st++ws) ws.length=some fs/\fs.length=ws.length/\∀ f∈fs,f<h.length:=by
 obtain ⟨fs,e1,e2,e3⟩:=zwM k;refine ⟨fs,?_,e2,e3⟩;unfold zlT;rw[if_pos (by simp),show (st++ws).length-ws.length=st.length by simp,List.drop_left,e1,List.reverse_reverse];exact zqh fs
variable {fs:List Nat}
theorem zte(k:∀ f∈fs,f<h.length):∀ w∈(fs.map Wd.ad).reverse,Ad h w:=fun w hw=>by
 rw[List.mem_reverse,zz1]at hw;obtain ⟨f,hf,rfl⟩:=hw;exact ⟨f,rfl,k f hf⟩
theorem give:∀ (g:Nat) {S:List Wd} {B:List Nat} {v:Nat} {A:Ma},A.st=S++[.ad v]->S.length<g->K Y A.h S B->BZ A.h B->Vd Y.sl A.h v->Good Y A->Ok (A.za1 Y.hf Y.sl g) fun A'=>Cf Y A'/\A'.fuel=A.fuel
 |0,_,_,_,_,_,hg,_,_,_,_=>by omega
 |g+1,S,B,v,A,hs,hg,hK,hB,hv,hG=>by
  rw[Ma.za1];cases hK with
  |nil=>
   rw[if_pos (by rw[hs];simp)];exact .done ⟨⟨hG,[],[],[.ad v],hs,.nil,hB,.inr ⟨rfl,v,rfl,hv⟩⟩,rfl⟩
  |@upd S B c hK=>
   have hl:A.st.length=S.length+3:=by rw[hs];simp
   have e1:A.st[A.st.length-1]?=some (.ad v):=by rw[hl,hs,zy3 (by simp)];simp
   have e2:A.st[A.st.length-2]?=some (.mk 0 0):=by rw[hl,hs,zzk,zy3 (by omega),show S.length+3-2-S.length=1 by omega];rfl
   have e3:A.st[A.st.length-3]?=some (.ad c):=by rw[hl,hs,zzk,zy3 (by omega),show S.length+3-3-S.length=0 by omega];rfl
   have e4:zcE A.st 3=S:=by rw[hs,zzk];exact zef S [.ad c,.mk 0 0,.ad v]
   have hc:=hB.2 c (by simp);have eZ:=zAA.1 hB.1;have ie:Gv Y A.h (A.h.set c (.fwd v)):=Gv.set hc (fun e=>e.elim);rw[if_neg (by omega),e2];simp only;rw[if_neg (by omega),if_pos trivial,e1];simp only;rw[if_pos (by omega),e3,e4];simp only;have ih:=give g (S:=S) (B:=B) (v:=v) (A:={ A with h:=A.h.set c (.fwd v),st:=S++[.ad v] }) rfl (by simp at hg;omega) (hK.up ie) ⟨eZ.2,fun d hd=>by
    show (A.h.set c _)[d]?=_;rw[zyV,if_neg (fun e=>eZ.1 (by rw[e];exact hd))];exact hB.2 d (by simp[hd])⟩ (ie.2 v hv) ⟨hG.1.set ie (ie.2 v hv),hG.2.1,zyR hG.2.2 ie.1⟩
   obtain ⟨nd,n1,n2⟩:=hv;rw[hc,n1];cases nd with
   |num x=>exact ih
   |data t fs=>exact ih
   |clo b fs=>
    simp only;rw[if_pos (show ∃ n,Y.sl[b]?=some n/\fs.length<n from n2)];exact ih
   |busy=>exact n2.elim
   |fwd a=>exact n2.elim
  |@wait S F B b hK hb hr=>
   have hl:A.st.length=(S++F).length+2:=by rw[hs];simp;omega
   have e0:A.st=(S++F)++[.mk 1 b,.ad v]:=by rw[hs];simp
   have e1:A.st[A.st.length-1]?=some (.ad v):=by rw[hl,e0,zy3 (by omega),show (S++F).length+2-1-(S++F).length=1 by omega];rfl
   have e2:A.st[A.st.length-2]?=some (.mk 1 b):=by rw[hl,e0,zy3 (by omega),show (S++F).length+2-2-(S++F).length=0 by omega];rfl
   have e4:zcE A.st 2=S++F:=by rw[e0];exact zef (S++F) [.mk 1 b,.ad v]
   rw[if_neg (by omega),e2];simp only;rw[if_neg (by omega),if_neg (by omega),if_pos trivial,e1,e4];exact .done ⟨⟨hG,S,B,F++[.ad v],by simp,hK,hB,.inl ⟨b,rfl,hr _ v (Gv.refl _) hv⟩⟩,rfl⟩
  |@args S ws B hK hw h1 h2=>
   have hl:A.st.length=(S++ws).length+2:=by rw[hs];simp;omega
   have e0:A.st=(S++ws)++[.mk 2 ws.length,.ad v]:=by rw[hs];simp
   have e2:A.st[A.st.length-2]?=some (.mk 2 ws.length):=by rw[hl,e0,zy3 (by omega),show (S++ws).length+2-2-(S++ws).length=0 by omega];rfl
   have e4:zcE A.st 2=S++ws:=by rw[e0];exact zef (S++ws) [.mk 2 ws.length,.ad v]
   have e5:zcE A.st (2+ws.length)=S:=by
    rw[e0,zzk];have:=zef S (ws++[.mk 2 ws.length,.ad v])
    rwa [zyT,Nat.add_comm]at this
   rw[if_neg (by omega),e2];simp only;rw[if_neg (by omega),if_neg (by omega),if_neg (by omega),if_pos trivial];unfold Ma.za5;rw[show A.st.getLast?=some (.ad v) by rw[hs];simp];simp only;obtain ⟨nd,n1,n2⟩:=hv;have mR:=hG.1 v nd n1;rw[n1];cases nd with
   |num x=>exact .inl ⟨3,rfl⟩
   |data t fs=>exact .inl ⟨3,rfl⟩
   |busy=>exact n2.elim
   |fwd a=>exact n2.elim
   |clo b fs=>
    obtain ⟨n,m1,m2⟩:=n2;obtain ⟨t1,n',t2,t3⟩:=mR;obtain ⟨c1,c2,c3⟩:=Y.cb b n' t3;rw[m1]at c1;cases c1;simp only;rw[m1];simp only;rw[if_neg (by omega)];by_cases aj:ws.length<n-fs.length
    ·rw[if_pos aj];obtain ⟨gs,g1,g2,g3⟩:=zm9 S hw;have hx:A.extend Y.hf b ws.length fs=some (.error 4)\/A.extend Y.hf b ws.length fs=okA { A with h:=A.h++[.clo b (fs++gs)],st:=S++[.ad A.h.length] }:=by
      unfold Ma.extend;refine zwO ?_;rw[if_pos ⟨by omega,h1⟩,e4,g1,e5]
     rcases hx with hx|hx
     ·rw[hx];exact .inl ⟨4,rfl⟩
     ·rw[hx];have ie:Gv Y A.h (A.h++[.clo b (fs++gs)]):=Gv.app _;exact give g (S:=S) (B:=B) (v:=A.h.length) (A:={ A with h:=A.h++[.clo b (fs++gs)],st:=S++[.ad A.h.length] }) rfl (by simp at hg;omega) (hK.up ie) ⟨hB.1,fun d hd=>by
       show (A.h++_)[d]?=_;rw[zzc (zyL.1 (hB.2 d hd)).1];exact hB.2 d hd⟩ ⟨.clo b (fs++gs),by simp,n,m1,by simp;omega⟩ ⟨hG.1.app ⟨fun f hf=>by
        simp only[zyT,zy0];rcases zzi.1 hf with hf|hf
        ·have:=t1 f hf;omega
        ·have:=g3 f hf;omega,n,by simp;omega,t3⟩,hG.2.1,zyR hG.2.2 ie.1⟩
    ·rw[if_neg aj,if_neg (by omega)];have hx:A.call Y.hf b (n-fs.length) (ws.length-(n-fs.length)) fs=some (.error 4)\/A.call Y.hf b (n-fs.length) (ws.length-(n-fs.length)) fs=okA { A with st:=leave (S++ws) (n-fs.length) (ws.length-(n-fs.length))++(fs.map Wd.ad).reverse,next:=b }:=by
      unfold Ma.call;refine zwO ?_;rw[if_pos ⟨by rw[hl];simp;omega,by omega⟩,e4]
     rcases hx with hx|hx
     ·rw[hx];exact .inl ⟨4,rfl⟩
     ·rw[hx];simp only[okA,if_true];refine .done ⟨⟨hG,?_⟩,rfl⟩;have jX:=zte t1;by_cases hz:ws.length-(n-fs.length)=0
      ·refine ⟨S,B,ws++(fs.map Wd.ad).reverse,by simp[leave,hz],hK,hB,.inl ⟨b,rfl,c3 _ _ (by simp;omega) (fun w hm=>?_)⟩⟩;rcases zzi.1 hm with hm|hm
       ·exact hw w hm
       ·exact jX w hm
      ·have hlen:(ws.take (ws.length-(n-fs.length))).length=ws.length-(n-fs.length):=by simp
       refine ⟨S++(ws.take (ws.length-(n-fs.length))++[.mk 2 (ws.take (ws.length-(n-fs.length))).length]),B,ws.drop (ws.length-(n-fs.length))++(fs.map Wd.ad).reverse,?_,K.args hK (fun w hm=>hw w (zAp hm)) (by omega) (by omega),hB,.inl ⟨b,rfl,c3 _ _ (by simp;omega) (fun w hm=>?_)⟩⟩
       ·simp only[leave,if_neg hz];rw[hlen,show (S++ws).length-(n-fs.length)=S.length+(ws.length-(n-fs.length)) by simp;omega,List.take_length_add_append,List.drop_length_add_append];simp
       ·rcases zzi.1 hm with hm|hm
        ·exact hw w (List.mem_of_mem_drop hm)
        ·exact jX w hm
theorem enter{a:Nat}(hs:A.st=S++[.ad a])(ha:a<A.h.length)(hK:K Y A.h S B)(hB:BZ A.h B)(hG:Good Y A):Ok (A.enter Y.hf Y.sl) fun A'=>Cf Y A'/\A'.fuel=A.fuel:=by
 have hcut:zcE A.st 1=S:=by rw[hs];exact zef S [.ad a]
 have jH:∀ c,Vd Y.sl A.h c->Ok (Ma.za1 Y.hf Y.sl (A.st.length+1) { A with st:=S++[.ad c] }) fun A'=>Cf Y A'/\A'.fuel=A.fuel:=fun c hc=>give _ (A:={ A with st:=S++[.ad c] }) rfl (by rw[hs];simp;omega) hK hB hc hG
 have eZ:A.h[a]?=some A.h[a]:=zyM ha;unfold Ma.enter;rw[show A.st.getLast?=some (.ad a) by rw[hs];simp];simp only;rw[hcut];generalize hn:A.h[a]=nd at eZ;have mR:=hG.1 a nd eZ;cases nd with
 |fwd b=>
  rw[zgl eZ];obtain ⟨nd,n1,n2⟩:=mR;have hg:=jH b ⟨nd,n1,n2⟩;rw[n1];cases nd with
  |num x=>exact hg
  |data t fs=>exact hg
  |busy=>exact n2.elim
  |fwd a=>exact n2.elim
  |clo c fs=>
   obtain ⟨n,m1,m2⟩:=n2;simp only;rw[m1];simp only;rw[if_neg (by omega),if_pos m2];exact hg
 |num x=>
  rw[zdc eZ rfl,eZ];exact jH a ⟨_,eZ,trivial⟩
 |data t fs=>
  rw[zdc eZ rfl,eZ];exact jH a ⟨_,eZ,trivial⟩
 |busy=>
  rw[zdc eZ rfl,eZ];exact .inl ⟨5,rfl⟩
 |clo b fs=>
  rw[zdc eZ rfl,eZ];obtain ⟨t1,n,t2,t3⟩:=mR;obtain ⟨c1,c2,c3⟩:=Y.cb b n t3;simp only;rw[c1];simp only;by_cases aj:n=fs.length
  ·rw[if_pos aj];unfold Ma.zdy;refine zgM (.done ⟨?_,rfl⟩);have ie:Gv Y A.h (A.h.set a .busy):=Gv.set eZ (fun ⟨m,e1,e2⟩=>by rw[c1]at e1;cases e1;omega);refine ⟨⟨hG.1.set ie trivial,hG.2.1,zyR hG.2.2 ie.1⟩,S++[.ad a,.mk 0 0],a::B,(fs.map Wd.ad).reverse,by simp,(hK.up ie).upd,⟨zAA.2 ⟨fun hm=>?_,hB.1⟩,fun d hd=>?_⟩,.inl ⟨b,rfl,c3 _ _ (by simp[aj]) (zte fun f hf=>zyS (t1 f hf) ie.1)⟩⟩
   ·have:=hB.2 a hm;rw[eZ]at this;cases this
   ·simp only;rw[zyV];split
    ·rfl
    ·next e=>
     rcases zzo.1 hd with e'|hd
     ·exact absurd e'.symm e
     ·exact hB.2 d hd
  ·rw[if_neg aj,if_pos (by omega)];exact jH a ⟨_,eZ,n,c1,by omega⟩
end Sf
end Go.Proofs.YtgahgkddaljmkaaGreatDoor
