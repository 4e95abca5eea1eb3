/- Gc6 .. Mon1 -/
import Derived.Test.YtgahgkddaljmkaaGreatDoorQ16
set_option maxRecDepth 100000
set_option maxHeartbeats 4000000
namespace Go.Proofs.YtgahgkddaljmkaaGreatDoor
open Tryz
namespace Ab
variable {s:Sto} {fc:List Int} {h:List Nd} {st:List Wd} {fns:List Nat} {φ:Nat->Option Nat}{ws':List Int}
theorem Rel.zeV(R:Rel s fc h st fns φ){top':Nat}{st':List Wd}(hl:ws'.length=s.ws.length)(hk:∀ j,s.low<=j->j<s.free->ws'[j]?=s.ws[j]?)(iY:s.free<=top')(fg:top'+st'.length=s.low+s.half)(dY:∀ (i:Nat) (w:Wd),st'[i]?=some w->∃ x,ws'[s.low+s.half-1-i]?=some x/\RW φ h x w):Rel { s with ws:=ws',top:=top' } fc h st' fns φ:=by
 refine ⟨R.low,by simp only;rw[hl];exact R.len,by simp only;rw[hl];exact R.wl,R.lf,iY,fg,dY,R.fl,R.fn,?_,R.dis,R.ok,R.fw⟩;intro a p hp;obtain ⟨nd,h1,h2,h3,h4⟩:=R.nod a p hp;exact ⟨nd,h1,h2,h3,h4.congr (fun j j1 j2=>hk j (by omega) (by omega))⟩
variable {φ φ':Nat->Option Nat}{h h':List Nd}{x:Int}{a:Nat}
theorem Rf.mono(h1:∀ a p,φ a=some p->φ' a=some p)(h2:∀ (a b:Nat),h[a]?=some (.fwd b)->h'[a]?=some (.fwd b))(hr:Rf φ h x a):Rf φ' h' x a:=by
 obtain ⟨p,e,hp⟩:=hr;refine ⟨p,e,?_⟩;rcases hp with hp|⟨b,hb,hp⟩
 ·exact .inl (h1 a p hp)
 ·exact .inr ⟨b,h2 a b hb,h1 b p hp⟩
theorem RW.mono{φ φ':Nat->Option Nat}{h h':List Nd}(h1:∀ a p,φ a=some p->φ' a=some p)(h2:∀ (a b:Nat),h[a]?=some (.fwd b)->h'[a]?=some (.fwd b)){x:Int}{w:Wd}(hr:RW φ h x w):RW φ' h' x w:=by
 cases w with
 |ad a=>exact Rf.mono h1 h2 hr
 |mk k b=>exact hr
theorem At.mono{ws:List Int}{φ φ':Nat->Option Nat}{h h':List Nd}(h1:∀ a p,φ a=some p->φ' a=some p)(h2:∀ (a b:Nat),h[a]?=some (.fwd b)->h'[a]?=some (.fwd b)){p:Nat}{nd:Nd}(ha:At ws φ h p nd):At ws φ' h' p nd:=by
 rcases ha with ⟨b,p',e1,e2,e3⟩|⟨e1,e2,e3,e4⟩
 ·exact .inl ⟨b,p',e1,h1 b p' e2,e3⟩
 ·refine .inr ⟨e1,e2,e3,fun i f hf=>?_⟩;obtain ⟨x,x1,x2⟩:=e4 i f hf;exact ⟨x,x1,x2.mono h1 h2⟩
def grow (φ:Nat->Option Nat) (n p:Nat):Nat->Option Nat:=fun a=>if a=n then some p else φ a
theorem Rel.grown(R:Rel s fc h st fns φ)(p:Nat):∀ a q,φ a=some q->grow φ h.length p a=some q:=by
 intro a q hq;obtain ⟨nd,h1,_⟩:=R.nod a q hq;have:=(zyL.1 h1).1;unfold grow;rw[if_neg (by omega)];exact hq
variable {nd:Nd}
theorem zhE :∀ (a b:Nat),h[a]?=some (.fwd b)->(h++[nd])[a]?=some (.fwd b):=by
 intro a b hb;rw[zzc (zyL.1 hb).1];exact hb
theorem Rel.alloc(R:Rel s fc h st fns φ)(bU:zo6 nd)(hf:zaV nd=false)(ew:s.free+sz nd<=s.top)(hl:ws'.length=s.ws.length)(hk:∀ j,(j<s.free\/s.free+sz nd<=j)->ws'[j]?=s.ws[j]?)(aV:AtC ws' (Rf (grow φ h.length s.free) (h++[nd])) s.free nd):Rel { s with ws:=ws',free:=s.free+sz nd } fc (h++[nd]) st fns (grow φ h.length s.free):=by
 have hg:=R.grown s.free;have gU:(h++[nd])[h.length]?=some nd:=by simp
 have fg:=R.tp;have jE:∀ a p,grow φ h.length s.free a=some p->(a=h.length/\p=s.free)\/φ a=some p:=by
  intro a p hp;unfold grow at hp;split at hp
  ·next e=>cases hp;exact .inl ⟨e,rfl⟩
  ·exact .inr hp
 have hold:∀ (a:Nat) (n:Nd),(h++[nd])[a]?=some n->(a=h.length/\n=nd)\/h[a]?=some n:=by
  intro a n hn;rw[zzj]at hn;split at hn
  ·exact .inr hn
  ·next nO=>
   have:=(zyL.1 hn).1;simp at this;have h1:a-h.length=0:=by omega
   rw[h1]at hn;simp at hn;exact .inl ⟨by omega,hn.symm⟩
 refine ⟨R.low,by simp only;rw[hl];exact R.len,by simp only;rw[hl];exact R.wl,by simp only;have:=R.lf;omega,ew,R.tp,?_,R.fl,?_,?_,?_,?_,?_⟩
 ·intro i w hw;have br:=(zyL.1 hw).1;obtain ⟨x,x1,x2⟩:=R.stk i w hw;exact ⟨x,by simp only;rw[hk _ (by omega)];exact x1,x2.mono hg zhE⟩
 ·intro i a ha;obtain ⟨x,x1,x2⟩:=R.fn i a ha;exact ⟨x,x1,x2.mono hg zhE⟩
 ·intro a p hp;rcases jE a p hp with ⟨rfl,rfl⟩|hp
  ·exact ⟨nd,gU,R.lf,zyN _,.inr ⟨hf,aV⟩⟩
  ·obtain ⟨n,h1,h2,h3,h4⟩:=R.nod a p hp;refine ⟨n,by rw[zzc (zyL.1 h1).1];exact h1,h2,by simp only;omega,?_⟩;exact (h4.congr (fun j j1 j2=>hk j (by omega))).mono hg zhE
 ·intro a a' p p' n n' hp lu hn gw aH;rcases jE a p hp with ⟨rfl,rfl⟩|hp
  ·rcases jE a' p' lu with ⟨rfl,rfl⟩|lu
   ·exact absurd rfl aH
   ·obtain ⟨m,h1,h2,h3,h4⟩:=R.nod a' p' lu;rcases hold a' n' gw with ⟨e,_⟩|gw
    ·exact absurd e.symm aH
    ·rw[h1]at gw;cases gw;exact .inr h3
  ·obtain ⟨m,h1,h2,h3,h4⟩:=R.nod a p hp;rcases hold a n hn with ⟨e,_⟩|hn
   ·have:=(zyL.1 h1).1;omega
   ·rw[h1]at hn;cases hn;rcases jE a' p' lu with ⟨rfl,rfl⟩|lu
    ·exact .inl h3
    ·rcases hold a' n' gw with ⟨e,_⟩|gw
     ·obtain ⟨m',g1,_⟩:=R.nod a' p' lu;have:=(zyL.1 g1).1;omega
     ·exact R.dis a a' p p' n n' hp lu h1 gw aH
 ·intro a n hn;rcases hold a n hn with ⟨_,rfl⟩|hn
  ·exact bU
  ·exact R.ok a n hn
 ·intro a b hb;rcases hold a _ hb with ⟨_,e⟩|hb
  ·rw[<-e]at hf;simp[zaV]at hf
  ·obtain ⟨m,g1,g2⟩:=R.fw a b hb;exact ⟨m,by rw[zzc (zyL.1 g1).1];exact g1,g2⟩
variable {p:Nat}{nd':Nd}
theorem Rel.zxM(R:Rel s fc h st fns φ)(hp:φ a=some p)(hn:h[a]?=some nd)(jZ:zaV nd=false)(bU:zo6 nd')(hs:sz nd'<=sz nd)(hl:ws'.length=s.ws.length)(hk:∀ j,(j<p\/p+sz nd<=j)->ws'[j]?=s.ws[j]?)(aV:At ws' φ (h.set a nd') p nd')(gr:zaV nd'=true->∀ (x b:Nat),h[x]?=some (.fwd b)->b≠a)(xA:∀ b,nd'=.fwd b->b≠a/\∃ n,h[b]?=some n/\zaV n=false):Rel { s with ws:=ws' } fc (h.set a nd') st fns φ:=by
 have aU:=(zyL.1 hn).1;have fg:=R.tp;have iY:=R.ft;obtain ⟨GU,q1,q2,q3,q4⟩:=R.nod a p hp;rw[hn]at q1;cases q1;have dC:∀ (c b:Nat),h[c]?=some (.fwd b)->(h.set a nd')[c]?=some (.fwd b):=by
  intro c b hb;rw[zyV,if_neg (fun e=>by subst e;rw[hn]at hb;cases hb;simp[zaV]at jZ)];exact hb
 have aY:∀ (c:Nat) (n:Nd),(h.set a nd')[c]?=some n->(c=a/\n=nd')\/(c≠a/\h[c]?=some n):=by
  intro c n hc;rw[zyV]at hc;by_cases e:a=c
  ·rw[if_pos e,if_pos aU]at hc;cases hc;exact .inl ⟨e.symm,rfl⟩
  ·rw[if_neg e]at hc;exact .inr ⟨fun x=>e x.symm,hc⟩
 have hm:∀ c q,φ c=some q->φ c=some q:=fun _ _ x=>x
 refine ⟨R.low,by simp only;rw[hl];exact R.len,by simp only;rw[hl];exact R.wl,R.lf,R.ft,R.tp,?_,R.fl,?_,?_,?_,?_,?_⟩
 ·intro i w hw;have br:=(zyL.1 hw).1;obtain ⟨x,x1,x2⟩:=R.stk i w hw;exact ⟨x,by simp only;rw[hk _ (by omega)];exact x1,x2.mono hm dC⟩
 ·intro i c hc;obtain ⟨x,x1,x2⟩:=R.fn i c hc;exact ⟨x,x1,x2.mono hm dC⟩
 ·intro c q hq;by_cases e:c=a
  ·subst e;rw[hp]at hq;cases hq;exact ⟨nd',by rw[zyV,if_pos rfl,if_pos aU],q2,by simp only;omega,aV⟩
  ·obtain ⟨n,h1,h2,h3,h4⟩:=R.nod c q hq;have hd:=R.dis c a q p n nd hq hp h1 hn e;refine ⟨n,by rw[zyV,if_neg (fun x=>e x.symm)];exact h1,h2,h3,(h4.congr (fun j j1 j2=>hk j (by omega))).mono hm dC⟩
 ·intro c c' q q' n n' hq lx hc eV aH;rcases aY c n hc with ⟨e1,e2⟩|⟨e,bH⟩
  ·subst e1 e2;rcases aY c' n' eV with ⟨e3,_⟩|⟨e',bT⟩
   ·exact absurd e3.symm aH
   ·have h9:=R.dis c c' q q' nd n' hq lx hn bT aH;rw[hp]at hq;cases hq;omega
  ·rcases aY c' n' eV with ⟨e3,e4⟩|⟨e',bT⟩
   ·subst e3 e4;have h9:=R.dis c c' q q' n nd hq lx bH hn aH;omega
   ·exact R.dis c c' q q' n n' hq lx bH bT aH
 ·intro c n hc;rcases aY c n hc with ⟨_,rfl⟩|⟨_,hc⟩
  ·exact bU
  ·exact R.ok c n hc
 ·intro c b hb;rcases aY c _ hb with ⟨_,e⟩|⟨_,aA⟩
  ·obtain ⟨h1,n,h2,h3⟩:=xA b e.symm;exact ⟨n,by rw[zyV,if_neg (fun x=>h1 x.symm)];exact h2,h3⟩
  ·obtain ⟨n,h2,h3⟩:=R.fw c b aA;by_cases e:b=a
   ·refine ⟨nd',by rw[e,zyV,if_pos rfl,if_pos aU],?_⟩;cases hx:zaV nd' with
    |false=>rfl
    |true=>exact absurd e (gr hx c b aA)
   ·exact ⟨n,by rw[zyV,if_neg (fun x=>e x.symm)];exact h2,h3⟩
variable {s:Sto} {fc:List Int} {h:List Nd} {st:List Wd} {fns:List Nat} {φ:Nat->Option Nat}
theorem Rel.hi(R:Rel s fc h st fns φ):s.low+s.half<=s.ws.length:=by
 have h1:=R.low;have h2:=R.len;omega
theorem Rel.word(R:Rel s fc h st fns φ){d:Nat}(hd:d<st.length):∃ w x,st[st.length-1-d]?=some w/\s.ws[s.top+d]?=some x/\RW φ h x w:=by
 have fg:=R.tp;obtain ⟨w,hw⟩:∃ w,st[st.length-1-d]?=some w:=⟨_,zyM (by omega)⟩;obtain ⟨x,x1,x2⟩:=R.stk _ w hw;rw[show s.low+s.half-1-(st.length-1-d)=s.top+d by omega]at x1;exact ⟨w,x,hw,x1,x2⟩
variable {w:Wd}
theorem zc5(R:Rel s fc h st fns φ)(ew:s.free+1<=s.top)(hw:RW φ h x w):s.push x=some { s with top:=s.top-1,ws:=s.ws.set (s.top-1) x }/\Rel { s with top:=s.top-1,ws:=s.ws.set (s.top-1) x } fc h (st++[w]) fns φ:=by
 have fg:=R.tp;have gS:=R.hi;refine ⟨?_,?_⟩
 ·unfold Sto.push;rw[if_pos (by omega)]
 ·refine R.zeV (ws':=s.ws.set (s.top-1) x) (top':=s.top-1) (by simp) (fun j h1 h2=>by rw[zyV,if_neg (by omega)]) (by omega) (by simp;omega) (fun i w' fY=>?_);rw[zzj]at fY;split at fY
  ·next br=>
   obtain ⟨y,y1,y2⟩:=R.stk i w' fY;exact ⟨y,by rw[zyV,if_neg (by omega)];exact y1,y2⟩
  ·next br=>
   have:=(zyL.1 fY).1;simp at this;have h1:i-st.length=0:=by omega
   rw[h1]at fY;simp at fY;subst fY;refine ⟨x,?_,hw⟩;rw[show s.low+s.half-1-i=s.top-1 by omega,zyV,if_pos rfl,if_pos (by omega)]
variable {c:Nat}
theorem zhQ(R:Rel s fc h st fns φ)(hc:c<=st.length):s.pop c=some { s with top:=s.top+c }/\Rel { s with top:=s.top+c } fc h (st.take (st.length-c)) fns φ:=by
 have fg:=R.tp;have gS:=R.hi;have eE:=R.wl;have iY:=R.ft;refine ⟨?_,?_⟩
 ·unfold Sto.pop;rw[if_pos (by omega)]
 ·refine R.zeV (ws':=s.ws) (top':=s.top+c) rfl (fun j _ _=>rfl) (by omega) (by rw[zzf];omega) (fun i w hw=>?_);rw[zzy]at hw;split at hw
  ·exact R.stk i w hw
  ·cases hw
theorem zmy(R:Rel s fc h st fns φ){xs:List Int}(bU:zo6 nd)(hf:zaV nd=false)(ew:s.free+sz nd<=s.top)(dk:xs.length+1=sz nd)(xS:∀ v,nd=.num v->xs[0]?=some v)(bZ:∀ (i f:Nat),(zdd nd)[i]?=some f->∃ x,xs[i]?=some x/\Rf (grow φ h.length s.free) (h++[nd]) x f):
  s.node (hdr nd) xs=some { s with free:=s.free+sz nd,ws:=Go.splice (s.ws.set s.free (hdr nd)) (s.free+1) xs }/\Rel { s with free:=s.free+sz nd,ws:=Go.splice (s.ws.set s.free (hdr nd)) (s.free+1) xs } fc (h++[nd]) st fns (grow φ h.length s.free):=by
 have fg:=R.tp;have gS:=R.hi;have aK:(Go.splice (s.ws.set s.free (hdr nd)) (s.free+1) xs).length=s.ws.length:=by rw[zzM _ _ _ (by rw[zy6];omega),zy6]
 have aY:∀ j,(Go.splice (s.ws.set s.free (hdr nd)) (s.free+1) xs)[j]?=if j=s.free then some (hdr nd) else if s.free<j/\j<s.free+sz nd then xs[j-(s.free+1)]? else s.ws[j]?:=by
  intro j;rw[zbu _ _ _ _ (by rw[zy6];omega)];by_cases h1:j=s.free
  ·rw[if_pos (by omega),if_pos h1,h1,zyV,if_pos rfl,if_pos (by omega)]
  ·have cS:(s.ws.set s.free (hdr nd))[j]?=s.ws[j]?:=by rw[zyV,if_neg (fun e=>h1 e.symm)]
   rw[if_neg h1];by_cases h2:j<s.free+1
   ·rw[if_pos h2,if_neg (by omega),cS]
   ·rw[if_neg h2];by_cases h3:j<s.free+1+xs.length
    ·rw[if_pos h3,if_pos (by omega)]
    ·rw[if_neg h3,if_neg (by omega),cS]
 have hs:=zhd nd;refine ⟨?_,?_⟩
 ·unfold Sto.node;rw[if_pos (by omega)];congr 2;omega
 ·refine R.alloc bU hf ew aK (fun j hj=>by rw[aY,if_neg (by omega),if_neg (by omega)]) ⟨by rw[aY,if_pos rfl],fun v hv=>?_,fun i f hf=>?_⟩
  ·have h2:sz nd=2:=by rw[hv];rfl
   rw[aY,if_neg (by omega),if_pos (by omega),show s.free+1-(s.free+1)=0 by omega];exact xS v hv
  ·obtain ⟨x,x1,x2⟩:=bZ i f hf;have:=(zyL.1 x1).1;exact ⟨x,by rw[aY,if_neg (by omega),if_pos (by omega),show s.free+1+i-(s.free+1)=i by omega];exact x1,x2⟩
def zwL:List Wd->Option (List Nat)
 |[]=>some []
 |.ad a::l=>(zwL l).map (a::·)
 |.mk _ _::_=>none
theorem zqg:∀ {l:List Wd} {fs:List Nat},zwL l=some fs->fs.length=l.length/\∀ (i f:Nat),fs[i]?=some f->l[i]?=some (.ad f)
 |[],fs,h=>by simp[zwL]at h;subst h;simp
 |.ad a::l,fs,h=>by
  rw[zwL]at h;simp only[zyX]at h;obtain ⟨r,h1,rfl⟩:=h;obtain ⟨e1,e2⟩:=zqg h1;refine ⟨by simp[e1],fun i f hf=>?_⟩;cases i with
  |zero=>simp at hf;simp[hf]
  |succ i=>simpa using e2 i f (by simpa using hf)
 |.mk _ _::l,fs,h=>by simp[zwL]at h
def zlT (st:List Wd) (c:Nat):Option (List Nat):=if c<=st.length then zwL (st.drop (st.length-c)).reverse else none
variable {st:List Wd}{fs:List Nat}
theorem ziX(ht:zlT st c=some fs):c<=st.length/\fs.length=c/\∀ (i f:Nat),fs[i]?=some f->st[st.length-1-i]?=some (.ad f):=by
 unfold zlT at ht;split at ht
 ·next hc=>
  obtain ⟨e1,e2⟩:=zqg ht;have hl:fs.length=c:=by rw[e1];simp;omega
  refine ⟨hc,hl,fun i f hf=>?_⟩;have br:=(zyL.1 hf).1;have:=e2 i f hf;rw[List.getElem?_reverse (by simp;omega),zzx]at this;rw[<-this];congr 1;simp;omega
 ·cases ht
theorem Rel.zlT(R:Rel s fc h st fns φ){c:Nat}{fs:List Nat}(ht:zlT st c=some fs):(s.words s.top c).length=c/\∀ (i f:Nat),fs[i]?=some f->∃ x,(s.words s.top c)[i]?=some x/\Rf φ h x f:=by
 obtain ⟨h1,h2,h3⟩:=ziX ht;have fg:=R.tp;have gS:=R.hi;unfold Sto.words;refine ⟨by rw[zzf,zzu];omega,fun i f hf=>?_⟩;have br:=(zyL.1 hf).1;obtain ⟨w,x,w1,w2,w3⟩:=R.word (d:=i) (by omega);rw[h3 i f hf]at w1;cases w1;exact ⟨x,by rw[zzy,if_pos (by omega),zzx];exact w2,w3⟩
theorem Rel.zfo(R:Rel s fc h st fns φ)(hr:Rf φ h x a)(hn:h[a]?=some nd)(hf:zaV nd=false):∃ p:Nat,x=p/\φ a=some p/\s.low<=p/\p+sz nd<=s.free/\AtC s.ws (Rf φ h) p nd:=by
 obtain ⟨p,rfl,hp⟩:=hr;rcases hp with hp|⟨b,hb,_⟩
 ·obtain ⟨n,h1,h2,h3,h4⟩:=R.nod a p hp;rw[hn]at h1;cases h1;rcases h4 with ⟨b,p',e,_⟩|⟨_,h5⟩
  ·rw[e]at hf;simp[zaV]at hf
  ·exact ⟨p,rfl,hp,h2,h3,h5⟩
 ·rw[hn]at hb;cases hb;simp[zaV]at hf
theorem AtC.head{ws:List Int}{ρ:Int->Nat->Prop}{p:Nat}{nd:Nd}(h:AtC ws ρ p nd)(bU:zo6 nd){s:Sto}(hw:s.ws=ws):s.head p=some (hdr nd):=by
 obtain ⟨r1,r2⟩:=zde bU;unfold Sto.head;rw[hw,h.1];simp only;rw[if_neg (by omega)]
variable {s:Sto}
theorem AtC.fields{ρ:Int->Nat->Prop}(h:AtC s.ws ρ p nd)(hl:p+1+(zdd nd).length<=s.ws.length):(s.words (p+1) (zdd nd).length).length=(zdd nd).length/\∀ (i f:Nat),(zdd nd)[i]?=some f->∃ x,(s.words (p+1) (zdd nd).length)[i]?=some x/\ρ x f:=by
 unfold Sto.words;refine ⟨by rw[zzf,zzu];omega,fun i f hf=>?_⟩;have br:=(zyL.1 hf).1;obtain ⟨x,x1,x2⟩:=h.2.2 i f hf;exact ⟨x,by rw[zzy,if_pos (by omega),zzx];exact x1,x2⟩
theorem zgq(R:Rel s fc h st fns φ){xs:List Int}(hl:xs.length=fs.length)(ew:s.free+xs.length<=s.top)(hx:∀ (i f:Nat),fs[i]?=some f->∃ x,xs[i]?=some x/\Rf φ h x f):
  s.zek xs=some { s with top:=s.top-xs.length,ws:=Go.splice s.ws (s.top-xs.length) xs }/\Rel { s with top:=s.top-xs.length,ws:=Go.splice s.ws (s.top-xs.length) xs } fc h (st++(fs.map Wd.ad).reverse) fns φ:=by
 have fg:=R.tp;have gS:=R.hi;refine ⟨?_,?_⟩
 ·unfold Sto.zek;rw[if_pos (by omega)]
 ·refine R.zeV (ws':=Go.splice s.ws (s.top-xs.length) xs) (top':=s.top-xs.length) (zzM _ _ _ (by omega)) (fun j h1 h2=>by rw[zbu _ _ _ _ (by omega),if_pos (by omega)]) (by omega) (by simp;omega) (fun i w hw=>?_);rw[zbu _ _ _ _ (by omega)];rw[zzj]at hw;split at hw
  ·next br=>
   obtain ⟨y,y1,y2⟩:=R.stk i w hw;exact ⟨y,by rw[if_neg (by omega),if_neg (by omega)];exact y1,y2⟩
  ·next br=>
   have aj:=(zyL.1 hw).1;simp at aj;rw[List.getElem?_reverse (by simp;omega)]at hw;simp only[List.length_map,List.getElem?_map,zyX]at hw;obtain ⟨f,hf,rfl⟩:=hw;obtain ⟨x,x1,x2⟩:=hx _ f hf;refine ⟨x,?_,x2⟩;rw[if_neg (by omega),if_pos (by omega),show s.low+s.half-1-i-(s.top-xs.length)=fs.length-1-(i-st.length) by omega];exact x1
end Ab
end Go.Proofs.YtgahgkddaljmkaaGreatDoor
namespace Go.Proofs.YtgahgkddaljmkaaGreatDoor
open Tryz
namespace Ab
open Classical in
noncomputable def ask (hf k:Nat) (A:Ma) (f:Ma->Option (Except Nat Ma)):Option (Except Nat Ma):=if Fits hf A k then f A else some (.error 4)
def zcE (st:List Wd) (c:Nat):List Wd:=st.take (st.length-c)
def okA (A:Ma):Option (Except Nat Ma):=some (.ok A)
noncomputable def Ma.zau (hf:Nat) (v:Int) (A:Ma):Option (Except Nat Ma):=ask hf 3 A fun A=>okA { A with h:=A.h++[.num v],st:=A.st++[.ad A.h.length] }
noncomputable def Ma.mkN (hf:Nat) (nd:List Nat->Nd) (c:Nat) (A:Ma):Option (Except Nat Ma):=ask hf (c+2) A fun A=>
 match zlT A.st c with
 |none=>none
 |some fs=>okA { A with h:=A.h++[nd fs],st:=zcE A.st c++[.ad A.h.length] }
noncomputable def Ma.zn5 (hf t c:Nat) (A:Ma):Option (Except Nat Ma):=if t<=1000000000/\c<4096 then A.mkN hf (.data t) c else none
noncomputable def Ma.zpH (hf b c:Nat) (A:Ma):Option (Except Nat Ma):=if b<=1000000000/\c<4096 then A.mkN hf (.clo b) c else none
noncomputable def Ma.hold (hf b c:Nat) (A:Ma):Option (Except Nat Ma):=if b<=1000000000/\c<4096 then ask hf (c+2) A fun A=>okA { A with h:=A.h++[.clo b (List.replicate c A.h.length)],st:=A.st++[.ad A.h.length] } else none
noncomputable def Ma.zjF (hf:Nat) (w:Ma->Option Wd) (A:Ma):Option (Except Nat Ma):=ask hf 1 A fun A=>
 match w A with
 |none=>none
 |some w=>okA { A with st:=A.st++[w] }
def Ma.slot (A:Ma) (k:Nat):Option Wd:=if 0<=A.below then A.st[A.below.toNat+k]? else none
def Ma.fill (k c:Nat) (A:Ma):Option (Except Nat Ma):=
 match A.slot k with
 |some (.ad a)=>
  match A.h[a]? with
  |some (.clo b fs)=>if fs.length=c then (match zlT A.st c with|none=>none|some gs=>okA { A with h:=A.h.set a (.clo b gs),st:=zcE A.st c }) else none
  |_=>none
 |_=>none
def Ma.zci (c:Nat) (A:Ma):Option Ma:=if 0<=A.below/\A.below.toNat+c<=A.st.length then some { A with st:=A.st.take A.below.toNat++A.st.drop (A.st.length-c) } else none
def Ma.zdW (A:Ma) (d:Nat):Option (Except Nat Int):=
 if d<A.st.length then
  match A.st[A.st.length-1-d]? with
  |some (.ad a)=>
   match A.h[a]? with
   |some (.num v)=>some (.ok v)
   |some (.data _ _)=>some (.error 3)
   |some (.clo _ _)=>some (.error 3)
   |_=>none
  |_=>none
 else none
noncomputable def Ma.zww (hf:Nat) (b:Bool) (A:Ma):Option (Except Nat Ma):=A.mkN hf (fun _=>.data (if b then 2 else 1) []) 0
noncomputable def Ma.calc (hf:Nat) (sg:ByteArray) (l r:Int) (A:Ma):Option (Except Nat Ma):=
 if sg=⟨#[43]⟩ then A.zau hf (IntKind.i64.wrap (l+r)) else
 if sg=⟨#[45]⟩ then A.zau hf (IntKind.i64.wrap (l-r)) else
 if sg=⟨#[42]⟩ then A.zau hf (IntKind.i64.wrap (l*r)) else
 if sg=⟨#[47]⟩ then (if r=0 then some (.error 3) else A.zau hf (IntKind.i64.wrap (Int.tdiv l r))) else
 if sg=⟨#[60]⟩ then A.zww hf (decide (l<r)) else
 if sg=⟨#[61,61]⟩ then A.zww hf (decide (l=r)) else none
noncomputable def Ma.compute (hf:Nat) (sg:ByteArray) (A:Ma):Option (Except Nat Ma):=
 match A.zdW 0 with
 |none=>none
 |some (.error k)=>some (.error k)
 |some (.ok r)=>
  match A.zdW 1 with
  |none=>none
  |some (.error k)=>some (.error k)
  |some (.ok l)=>Ma.calc hf sg l r { A with st:=zcE A.st 2 }
noncomputable def Ma.zdy (hf a b:Nat) (fs:List Nat) (A:Ma):Option (Except Nat Ma):=ask hf (1+fs.length) A fun A=>okA { A with h:=A.h.set a .busy,st:=A.st++[.mk 0 0]++(fs.map Wd.ad).reverse,next:=b }
noncomputable def Ma.extend (hf b c:Nat) (fs:List Nat) (A:Ma):Option (Except Nat Ma):=ask hf (1+fs.length+c) A fun A=>
 if fs.length+c<4096/\1<=c then
  match zlT (zcE A.st 2) c with
  |none=>none
  |some gs=>okA { A with h:=A.h++[.clo b (fs++gs)],st:=zcE A.st (2+c)++[.ad A.h.length] }
 else none
def leave (st:List Wd) (lk lf:Nat):List Wd:=if lf=0 then st else st.take (st.length-lk)++[.mk 2 lf]++st.drop (st.length-lk)
noncomputable def Ma.call (hf b lk lf:Nat) (fs:List Nat) (A:Ma):Option (Except Nat Ma):=ask hf fs.length A fun A=>
 if 2+lk<=A.st.length/\lf<=1000000 then okA { A with st:=leave (zcE A.st 2) lk lf++(fs.map Wd.ad).reverse,next:=b } else none
noncomputable def Ma.za5 (hf:Nat) (sl:List Nat) (c:Nat) (A:Ma):Option (Except Nat (Bool × Ma)):=
 match A.st.getLast? with
 |some (.ad a)=>
  match A.h[a]? with
  |some (.num _)=>some (.error 3)
  |some (.data _ _)=>some (.error 3)
  |some (.clo b fs)=>
   match sl[b]? with
   |none=>none
   |some n=>if n<fs.length then none else
    if c<n-fs.length then (match A.extend hf b c fs with|none=>none|some (.error k)=>some (.error k)|some (.ok A')=>some (.ok (false,A')))
    else if 2000000<c then none
    else (match A.call hf b (n-fs.length) (c-(n-fs.length)) fs with|none=>none|some (.error k)=>some (.error k)|some (.ok A')=>some (.ok (true,A')))
  |_=>none
 |_=>none
noncomputable def Ma.za1 (hf:Nat) (sl:List Nat):Nat->Ma->Option (Except Nat Ma)
 |0,_=>none
 |g+1,A=>
  if A.st.length<=1 then okA { A with next:=-1 } else
  match A.st[A.st.length-2]? with
  |some (.mk k b)=>
   if 1000000000<=b then none else
   if k=0 then
    match A.st[A.st.length-1]? with
    |some (.ad v)=>
     if 3<=A.st.length then
     match A.st[A.st.length-3]? with
     |some (.ad c)=>
      match A.h[c]?,A.h[v]? with
      |some .busy,some (.num _)=>Ma.za1 hf sl g { A with h:=A.h.set c (.fwd v),st:=zcE A.st 3++[.ad v] }
      |some .busy,some (.data _ _)=>Ma.za1 hf sl g { A with h:=A.h.set c (.fwd v),st:=zcE A.st 3++[.ad v] }
      |some .busy,some (.clo b fs)=>if (∃ n,sl[b]?=some n/\fs.length<n) then Ma.za1 hf sl g { A with h:=A.h.set c (.fwd v),st:=zcE A.st 3++[.ad v] } else none
      |_,_=>none
     |_=>none
     else none
    |_=>none
   else if k=1 then
    match A.st[A.st.length-1]? with
    |some (.ad v)=>okA { A with st:=zcE A.st 2++[.ad v],next:=b }
    |_=>none
   else if k=2 then
    match A.za5 hf sl b with
    |none=>none
    |some (.error j)=>some (.error j)
    |some (.ok q)=>if q.1=true then okA q.2 else Ma.za1 hf sl g q.2
   else none
  |_=>none
noncomputable def Ma.enter (hf:Nat) (sl:List Nat) (A:Ma):Option (Except Nat Ma):=
 match A.st.getLast? with
 |some (.ad a)=>
  let A1:Ma:={ A with st:=zcE A.st 1++[.ad (can A.h a)] }
  match A.h[can A.h a]? with
  |some .busy=>some (.error 5)
  |some (.num _)=>A1.za1 hf sl (A.st.length+1)
  |some (.data _ _)=>A1.za1 hf sl (A.st.length+1)
  |some (.clo b fs)=>
   match sl[b]? with
   |none=>none
   |some n=>if n=fs.length then A1.zdy hf (can A.h a) b fs else if fs.length<n then A1.za1 hf sl (A.st.length+1) else none
  |_=>none
 |_=>none
noncomputable def Ma.zcc (hf t:Nat) (fs:List Nat) (A:Ma):List (Nat × Nat × Nat)->Option (Except Nat Ma)
 |[]=>some (.error 3)
 |(u,c,b)::l=>if u=t then (if c=fs.length then ask hf c A fun A=>okA { A with st:=zcE A.st 1++(fs.map Wd.ad).reverse,next:=b } else some (.error 3)) else Ma.zcc hf t fs A l
noncomputable def Ma.choose (hf:Nat) (zao:List (Nat × Nat × Nat)) (A:Ma):Option (Except Nat Ma):=
 match A.st.getLast? with
 |some (.ad a)=>
  match A.h[a]? with
  |some (.data t fs)=>A.zcc hf t fs zao
  |some (.num _)=>some (.error 3)
  |some (.clo _ _)=>some (.error 3)
  |_=>none
 |_=>none
noncomputable def Ma.step (hf:Nat) (sl:List Nat) (A:Ma):Ins->Option (Except Nat Ma)
 |.push k=>A.zjF hf fun A=>A.slot k
 |.zcW f=>A.zjF hf fun A=>(A.fns[f]?).map Wd.ad
 |.num x=>A.zau hf x
 |.pack t c=>A.zn5 hf t c
 |.close b c=>A.zpH hf b c
 |.hold b c=>A.hold hf b c
 |.fill k c=>A.fill k c
 |.wait b=>if b<=1000000000 then A.zjF hf fun _=>some (.mk 1 b) else none
 |.zbF c=>if c<=1000000000 then A.zjF hf fun _=>some (.mk 2 c) else none
 |.zci c=>(A.zci c).map .ok
 |.zbX=>(A.zdW 0).map fun q=>q.map fun _=>A
 |.comp sg=>A.compute hf sg
 |.enter=>A.enter hf sl
 |.jump b=>okA { A with next:=b }
 |.choose zao=>A.choose hf zao
noncomputable def Ma.zbb (hf:Nat) (sl:List Nat):List Ins->Ma->Option (Except Nat Ma)
 |[],A=>okA A
 |i::l,A=>if A.fuel=0 then some (.error 5) else
  match Ma.step hf sl { A with fuel:=A.fuel-1 } i with
  |none=>none
  |some (.error k)=>some (.error k)
  |some (.ok A2)=>Ma.zbb hf sl l A2
noncomputable def Ma.work (hf:Nat) (cd:List (Nat × List Ins)):Nat->Ma->Option (Except Nat Ma)
 |0,_=>none
 |g+1,A=>
  if A.next=-1 then okA A else
  if A.next<0 then none else
  match cd[A.next.toNat]? with
  |none=>none
  |some (n,is)=>
   match Ma.zbb hf (cd.map Prod.fst) is { A with below:=(A.st.length:Int)-n } with
   |none=>none
   |some (.error k)=>some (.error k)
   |some (.ok A2)=>Ma.work hf cd g A2
noncomputable def Ma.zbm (hf:Nat):Nat->Nat->Ma->Option (Except Nat Ma)
 |_,0,A=>okA A
 |i,k+1,A=>if i<=1000000000 then ask hf 1 A fun A=>Ma.zbm hf (i+1) k { A with h:=A.h++[.clo i []],fns:=A.fns++[A.h.length] } else none
noncomputable def Ma.start (hf:Nat) (sl:List Nat) (nf main:Nat) (A:Ma):Option (Except Nat Ma):=
 match A.zbm hf 0 nf with
 |none=>none
 |some (.error k)=>some (.error k)
 |some (.ok A1)=>ask hf 1 A1 fun A2=>
  match A2.fns[main]? with
  |none=>none
  |some a=>Ma.enter hf sl { A2 with st:=A2.st++[.ad a] }
def Ma.told (A:Ma):Option (Int × Int × Int × Int):=
 match A.st.getLast? with
 |some (.ad a)=>
  match A.h[a]? with
  |some (.num v)=>some (1,v,0,0)
  |some (.data t fs)=>some (2,0,t,fs.length)
  |some (.clo _ _)=>some (3,0,0,0)
  |_=>none
 |_=>none
def Ma.new (fuel:Nat):Ma:=⟨[],[],[],fuel,0,0⟩
noncomputable def zwX (hf:Nat) (cd:List (Nat × List Ins)) (nf main fuel g:Nat):Option (Int × Int × Int × Int):=
 match (Ma.new fuel).start hf (cd.map Prod.fst) nf main with
 |none=>none
 |some (.error k)=>some (k,0,0,0)
 |some (.ok A1)=>
  match Ma.work hf cd g A1 with
  |none=>none
  |some (.error k)=>some (k,0,0,0)
  |some (.ok A2)=>A2.told
def zaS (sl:List Nat) (hf:Nat) (c:Option (Except Nat MSt)) (a:Option (Except Nat Ma)):Prop:=∀ r,a=some r ->
 match r with
 |.error k=>c=some (.error k)
 |.ok A'=>∃ m' φ',c=some (.ok m')/\MR sl hf m' A' φ'
theorem zaS.none(sl:List Nat)(hf:Nat)(c:Option (Except Nat MSt)):zaS sl hf c none:=fun _ h=>by cases h
theorem zaS.error(sl:List Nat)(hf k:Nat):zaS sl hf (some (.error k)) (some (.error k)):=fun _ h=>by cases h;rfl
theorem zaS.ok{sl:List Nat}{hf:Nat}{m:MSt}{A:Ma}{φ:Nat->Option Nat}(h:MR sl hf m A φ):zaS sl hf (some (.ok m)) (okA A):=fun _ e=>by cases e;exact ⟨m,φ,rfl,h⟩
variable {k:Nat}{φ:Nat->Option Nat}
theorem zcS{sl:List Nat}{hf:Nat}{m:MSt}{A:Ma}(M:MR sl hf m A φ){f:MSt->Option (Except Nat MSt)}{g:Ma->Option (Except Nat Ma)}(Er:∀ m' φ',MR sl hf m' A φ'->m'.s.free+k<=m'.s.top->m'.o=m.o->zaS sl hf (f m') (g A)):zaS sl hf (aft (m.zdI k) f) (ask hf k A g):=by
 unfold ask aft;rcases zvU (k:=k) M with ⟨h1,m',φ',h2,h3,h4,h5⟩|⟨h1,h2⟩
 ·rw[if_pos h1,h2];exact Er m' φ' h3 h4 h5
 ·rw[if_neg h1,h2];exact zaS.error _ _ _
end Ab
end Go.Proofs.YtgahgkddaljmkaaGreatDoor
namespace Go.Proofs.YtgahgkddaljmkaaGreatDoor
open Tryz
namespace Ab
abbrev zsp:=Int × Int × Int × Int
end Ab
namespace Sf
open Cp (Nm)
open Ab
end Sf
end Go.Proofs.YtgahgkddaljmkaaGreatDoor
namespace Go.Proofs.YtgahgkddaljmkaaGreatDoor
open Tryz
namespace Ab
variable {sl:List Nat} {hf:Nat} {m:MSt} {A:Ma} {φ:Nat->Option Nat}
abbrev VI (sl:List Nat) (h:List Nd):Prop:=∀ (a b:Nat),h[a]?=some (.fwd b)->∃ nd,h[b]?=some nd/\val sl nd
variable {h:List Nd}{nd:Nd}
theorem zoT(hv:VI sl h)(hf:zaV nd=false):VI sl (h++[nd]):=by
 intro a b hb;rw[zzj]at hb;split at hb
 ·obtain ⟨n,h1,h2⟩:=hv a b hb;exact ⟨n,by rw[zzc (zyL.1 h1).1];exact h1,h2⟩
 ·next nO=>
  have:=(zyL.1 hb).1;simp at this;have h1:a-h.length=0:=by omega
  rw[h1]at hb;simp at hb;rw[hb]at hf;simp[zaV]at hf
theorem zb2(M:MR sl hf m A φ)(v:Int):zaS sl hf (m.zau v) (A.zau hf v):=by
 refine zcS M (fun m' φ' M' hr _=>?_);obtain ⟨n1,n2⟩:=zmy M'.rel (nd:=.num v) (xs:=[v]) trivial rfl (by simp[sz];omega) (by simp[sz]) (fun w hw=>by cases hw;rfl) (fun i f hf=>by simp[zdd]at hf);obtain ⟨p1,p2⟩:=zc5 n2 (x:=m'.s.free) (w:=.ad A.h.length) (by simp[sz];omega) ⟨m'.s.free,rfl,.inl (by simp[grow])⟩;have hd:hdr (.num v)=0:=rfl;rw[hd]at n1 p1;unfold MSt.put;rw[n1];simp only[zzD];rw[p1];exact zaS.ok ⟨p2,M'.half,M'.fuel,M'.next,M'.below,zoT M'.vi rfl⟩
variable {c:Nat}
theorem zi6(M:MR sl hf m A φ){nd:List Nat->Nd}{hd:Int}(hh:∀ fs,fs.length=c->hdr (nd fs)=hd/\zo6 (nd fs)/\zaV (nd fs)=false/\sz (nd fs)=c+1/\(∀ v,nd fs≠.num v)/\∀ (i f:Nat),(zdd (nd fs))[i]?=some f->fs[i]?=some f):zaS sl hf (m.build hd c) (A.mkN hf nd c):=by
 refine zcS M (fun m' φ' M' hr _=>?_);cases ht:zlT A.st c with
 |none=>exact zaS.none _ _ _
 |some fs=>
  obtain ⟨t1,t2,t3⟩:=ziX ht;obtain ⟨e1,e2,e3,e4,e5,e6⟩:=hh fs t2;obtain ⟨w1,w2⟩:=M'.rel.zlT ht;have fg:=M'.rel.tp;have gS:=M'.rel.hi;obtain ⟨n1,n2⟩:=zmy M'.rel (nd:=nd fs) (xs:=m'.s.words m'.s.top c) e2 e3 (by omega) (by rw[w1,e4]) (fun v hv=>absurd hv (e5 v)) (fun i f dr=>by
   obtain ⟨x,x1,x2⟩:=w2 i f (e6 i f dr);exact ⟨x,x1,x2.mono (M'.rel.grown _) zhE⟩)
  obtain ⟨q1,q2⟩:=zhQ n2 (c:=c) t1;obtain ⟨p1,p2⟩:=zc5 q2 (x:=m'.s.free) (w:=.ad A.h.length) (by simp only;omega) ⟨m'.s.free,rfl,.inl (by simp[grow])⟩;rw[e1]at n1;simp only;rw[if_pos ⟨by omega,by omega⟩];unfold MSt.put;rw[n1];simp only[zzD];rw[e1]at q1 p1;rw[q1];simp only[zzD];rw[p1];rw[e1]at p2;exact zaS.ok ⟨p2,M'.half,M'.fuel,M'.next,M'.below,zoT M'.vi e3⟩
theorem ztM(M:MR sl hf m A φ)(t c:Nat):zaS sl hf (m.pack 1 t c) (A.zn5 hf t c):=by
 unfold MSt.pack Ma.zn5;split
 ·next hc=>exact zi6 M (fun fs hl=>⟨by simp[hdr,hl],⟨hc.1,by omega⟩,rfl,by simp[sz,hl];omega,by simp,fun i f hf=>hf⟩)
 ·exact zaS.none _ _ _
theorem ztL(M:MR sl hf m A φ)(t c:Nat):zaS sl hf (m.pack 2 t c) (A.zpH hf t c):=by
 unfold MSt.pack Ma.zpH;split
 ·next hc=>exact zi6 M (fun fs hl=>⟨by simp[hdr,hl],⟨hc.1,by omega⟩,rfl,by simp[sz,hl];omega,by simp,fun i f hf=>hf⟩)
 ·exact zaS.none _ _ _
theorem zoP(M:MR sl hf m A φ)(b:Bool):zaS sl hf (m.zcN b) (A.zww hf b):=by
 refine zi6 M (fun fs hl=>⟨?_,?_,rfl,by simp[sz],by simp,fun i f hf=>by simp[zdd]at hf⟩)
 ·cases b <;> rfl
 ·cases b <;> exact ⟨by decide,by decide⟩
theorem zqu{x:Int}:∀ (c:Nat) (s:Sto),s.free+c<=s.ws.length->∃ ws',s.fill x c=some { s with ws:=ws',free:=s.free+c }/\ws'.length=s.ws.length/\∀ j,ws'[j]?=if s.free<=j/\j<s.free+c then some x else s.ws[j]?
 |0,s,_=>⟨s.ws,rfl,rfl,fun j=>by rw[if_neg (by omega)]⟩
 |c+1,s,h=>by
  obtain ⟨ws',h1,h2,h3⟩:=zqu c { s with ws:=s.ws.set s.free x,free:=s.free+1 } (by simp only[zy6];omega);refine ⟨ws',?_,by rw[h2];simp,fun j=>?_⟩
  ·rw[Sto.fill,if_pos (by omega),h1];simp only;congr 2;omega
  ·rw[h3];simp only;rw[zyV];by_cases e:s.free=j
   ·rw[if_neg (by omega),if_pos e,if_pos (by omega),if_pos (by omega)]
   ·rw[if_neg e];by_cases h4:s.free+1<=j/\j<s.free+1+c
    ·rw[if_pos h4,if_pos (by omega)]
    ·rw[if_neg h4,if_neg (by omega)]
theorem zvD(M:MR sl hf m A φ)(b c:Nat):zaS sl hf (m.hold b c) (A.hold hf b c):=by
 unfold MSt.hold Ma.hold;split
 ·next hc=>
  refine zcS M (fun m' φ' M' hr _=>?_);have fg:=M'.rel.tp;have gS:=M'.rel.hi;have bg:m'.s.node (Hd 2 b c) []=some { m'.s with free:=m'.s.free+1,ws:=m'.s.ws.set m'.s.free (Hd 2 b c) }:=by
   unfold Sto.node;rw[if_pos (by simp;omega)];simp[Go.splice]
  obtain ⟨ws',f1,f2,f3⟩:=zqu (x:=(m'.s.free:Int)) c { m'.s with free:=m'.s.free+1,ws:=m'.s.ws.set m'.s.free (Hd 2 b c) } (by simp only[zy6];omega);simp only[zy6]at f2;have aY:∀ j,ws'[j]?=if j=m'.s.free then some (Hd 2 b c) else if m'.s.free<j/\j<m'.s.free+1+c then some (m'.s.free:Int) else m'.s.ws[j]?:=by
   intro j;rw[f3];simp only;rw[zyV];by_cases e:m'.s.free=j
   ·rw[if_neg (by omega),if_pos e,if_pos (by omega),if_pos e.symm]
   ·have e':¬ j=m'.s.free:=fun x=>e x.symm
    rw[if_neg e,if_neg e'];by_cases h4:m'.s.free+1<=j/\j<m'.s.free+1+c
    ·rw[if_pos h4,if_pos (by omega)]
    ·rw[if_neg h4,if_neg (by omega)]
  have cT:sz (.clo b (List.replicate c A.h.length))=1+c:=by simp[sz]
  have kV:∀ (i f:Nat),(zdd (.clo b (List.replicate c A.h.length)))[i]?=some f->∃ x,ws'[m'.s.free+1+i]?=some x/\Rf (grow φ' A.h.length m'.s.free) (A.h++[.clo b (List.replicate c A.h.length)]) x f:=by
   intro i f hf;simp only[zdd]at hf;have br:=(zyL.1 hf).1;simp at br;have uI:=zzQ (zy1 hf);exact ⟨m'.s.free,by rw[aY,if_neg (by omega),if_pos (by omega)],⟨m'.s.free,rfl,.inl (by rw[uI];simp[grow])⟩⟩
  have R2:=M'.rel.alloc (ws':=ws') (nd:=.clo b (List.replicate c A.h.length)) ⟨hc.1,by simp;omega⟩ rfl (by rw[cT];omega) f2 (fun j hj=>by rw[cT]at hj;rw[aY,if_neg (by omega),if_neg (by omega)]) ⟨(by rw[aY,if_pos rfl];simp[hdr]),(fun v hv=>(by cases hv)),kV⟩;rw[cT]at R2;obtain ⟨p1,p2⟩:=zc5 R2 (x:=m'.s.free) (w:=.ad A.h.length) (by simp only;omega) ⟨m'.s.free,rfl,.inl (by simp[grow])⟩;unfold MSt.put;rw[bg];simp only[zzD];rw[f1];simp only[zzD];have he:m'.s.free+1+c=m'.s.free+(1+c):=by omega
  rw[he,p1];exact zaS.ok ⟨p2,M'.half,M'.fuel,M'.next,M'.below,zoT M'.vi rfl⟩
 ·exact zaS.none _ _ _
variable {k:Nat}{w:Wd}
theorem zqU(M:MR sl hf m A φ)(hs:A.slot k=some w):∃ i x,m.slot k=some i/\m.s.ws[i]?=some x/\RW φ A.h x w/\m.s.top<=i/\i<m.s.low+m.s.half:=by
 unfold Ma.slot at hs;split at hs
 ·next h0=>
  have br:=(zyL.1 hs).1;obtain ⟨x,x1,x2⟩:=M.rel.stk _ w hs;have fg:=M.rel.tp;have hb:=M.below;refine ⟨m.s.low+m.s.half-1-(A.below.toNat+k),x,?_,x1,x2,by omega,by omega⟩;unfold MSt.slot;rw[hb,if_pos ⟨h0,by omega⟩];congr 1;omega
 ·cases hs
theorem zoa(M:MR sl hf m A φ)(k:Nat):zaS sl hf (m.ziT k) (A.zjF hf fun A=>A.slot k):=by
 refine zcS M (fun m' φ' M' hr ho=>?_);cases hs:A.slot k with
 |none=>simp only[hs];exact zaS.none _ _ _
 |some w=>
  obtain ⟨i,x,s1,s2,s3,_⟩:=zqU M' hs;obtain ⟨p1,p2⟩:=zc5 M'.rel hr s3;simp only[hs,s1,s2];unfold MSt.put;rw[p1];exact zaS.ok ⟨p2,M'.half,M'.fuel,M'.next,M'.below,M'.vi⟩
theorem zrP(M:MR sl hf m A φ)(f:Nat):zaS sl hf (m.zcW f) (A.zjF hf fun A=>(A.fns[f]?).map Wd.ad):=by
 refine zcS M (fun m' φ' M' hr ho=>?_);cases hs:A.fns[f]? with
 |none=>simp only[hs,Option.map_none];exact zaS.none _ _ _
 |some a=>
  obtain ⟨x,x1,x2⟩:=M'.rel.fn f a hs;obtain ⟨p1,p2⟩:=zc5 M'.rel hr (w:=.ad a) x2;simp only[hs,x1,zzP];unfold MSt.put;rw[p1];exact zaS.ok ⟨p2,M'.half,M'.fuel,M'.next,M'.below,M'.vi⟩
theorem zij(M:MR sl hf m A φ)(k b:Nat):zaS sl hf (m.zcH k b) (if b<=1000000000 then A.zjF hf fun _=>some (.mk k b) else none):=by
 unfold MSt.zcH;split
 ·refine zcS M (fun m' φ' M' hr ho=>?_);obtain ⟨p1,p2⟩:=zc5 M'.rel (x:=Mk k b) (w:=.mk k b) hr rfl;simp only;unfold MSt.put;rw[p1];exact zaS.ok ⟨p2,M'.half,M'.fuel,M'.next,M'.below,M'.vi⟩
 ·exact zaS.none _ _ _
theorem zut(M:MR sl hf m A φ)(c:Nat):zaS sl hf ((m.zci c).map .ok) ((A.zci c).map .ok):=by
 unfold Ma.zci;split
 ·next hc=>
  have fg:=M.rel.tp;have gS:=M.rel.hi;have iY:=M.rel.ft;have hb:=M.below;have aN:(m.s.words m.s.top c).length=c:=by unfold Sto.words;rw[zzf,zzu];omega
  unfold MSt.zci;rw[hb,if_pos ⟨hc.1,by omega,gS,by omega⟩];simp only[zzP];refine zaS.ok (φ:=φ) ⟨?_,M.half,M.fuel,M.next,M.below,M.vi⟩;refine M.rel.zeV (top':=m.s.low+m.s.half-A.below.toNat-c) (zzM _ _ _ (by rw[aN];omega)) (fun j h1 h2=>by rw[zbu _ _ _ _ (by rw[aN];omega),if_pos (by omega)]) (by omega) (by simp;omega) (fun i w hw=>?_);rw[zbu _ _ _ _ (by rw[aN];omega),aN];rw[zzj,zzf,zzV (by omega)]at hw;split at hw
  ·next br=>
   rw[zzy,if_pos br]at hw;obtain ⟨y,y1,y2⟩:=M.rel.stk i w hw;exact ⟨y,by rw[if_neg (by omega),if_neg (by omega)];exact y1,y2⟩
  ·next br=>
   rw[zzx]at hw;have aj:=(zyL.1 hw).1;obtain ⟨y,y1,y2⟩:=M.rel.stk _ w hw;refine ⟨y,?_,y2⟩;rw[if_neg (by omega),if_pos (by omega)];unfold Sto.words;rw[zzy,if_pos (by omega),zzx];rw[<-y1];congr 1;omega
 ·exact zaS.none _ _ _
theorem zjw(M:MR sl hf m A φ){d:Nat}{r:Except Nat Int}(h:A.zdW d=some r):m.numberAt d=some r:=by
 unfold Ma.zdW at h;split at h
 ·next hd=>
  obtain ⟨w,x,w1,w2,w3⟩:=M.rel.word hd;rw[w1]at h;cases w with
  |mk k b=>simp at h
  |ad a=>
   simp only at h;have key:∀ nd,A.h[a]?=some nd->zaV nd=false->∃ p:Nat,x=p/\m.s.ws[p]?=some (hdr nd)/\0<=hdr nd/\hdr nd<9223372036854775808/\∀ v,nd=.num v->m.s.ws[p+1]?=some v:=fun nd hn hf=>by
    obtain ⟨p,p1,p2,p3,p4,p5⟩:=M.rel.zfo w3 hn hf;obtain ⟨r1,r2⟩:=zde (M.rel.ok a nd hn);exact ⟨p,p1,p5.1,r1,r2,p5.2.1⟩
   unfold MSt.numberAt;rw[w2];simp only;cases hn:A.h[a]? with
   |none=>rw[hn]at h;simp at h
   |some nd=>
    rw[hn]at h;cases nd with
    |num v=>
     cases h;obtain ⟨p,rfl,p2,p3,p4,p5⟩:=key _ hn rfl;rw[if_neg (by omega),zy2,p2];simp only;rw[if_neg (by omega),if_pos (by simp[hdr]),p5 v rfl]
    |data t fs=>
     cases h;obtain ⟨p,rfl,p2,p3,p4,p5⟩:=key _ hn rfl;rw[if_neg (by omega),zy2,p2];simp only;rw[if_neg (by omega),if_neg (by simp only[hdr];rw[zbx (by omega)];omega)]
    |clo t fs=>
     cases h;obtain ⟨p,rfl,p2,p3,p4,p5⟩:=key _ hn rfl;rw[if_neg (by omega),zy2,p2];simp only;rw[if_neg (by omega),if_neg (by simp only[hdr];rw[zbx (by omega)];omega)]
    |busy=>simp at h
    |fwd b=>simp at h
 ·cases h
theorem zpD(M:MR sl hf m A φ):zaS sl hf ((m.numberAt 0).map fun q=>q.map fun _=>m) ((A.zdW 0).map fun q=>q.map fun _=>A):=by
 cases h:A.zdW 0 with
 |none=>exact zaS.none _ _ _
 |some r=>
  rw[zjw M h];cases r with
  |error k=>exact zaS.error _ _ _
  |ok v=>exact zaS.ok M
theorem zvd(M:MR sl hf m A φ)(sg:ByteArray)(l r:Int):zaS sl hf (m.calc sg l r) (A.calc hf sg l r):=by
 unfold MSt.calc Ma.calc;split
 ·exact zb2 M _
 ·split
  ·exact zb2 M _
  ·split
   ·exact zb2 M _
   ·split
    ·split
     ·exact zaS.error _ _ _
     ·exact zb2 M _
    ·split
     ·exact zoP M _
     ·split
      ·exact zoP M _
      ·exact zaS.none _ _ _
theorem zpo(M:MR sl hf m A φ)(sg:ByteArray):zaS sl hf (m.compute sg) (A.compute hf sg):=by
 unfold MSt.compute Ma.compute;cases h0:A.zdW 0 with
 |none=>exact zaS.none _ _ _
 |some r0=>
  rw[zjw M h0];cases r0 with
  |error k=>exact zaS.error _ _ _
  |ok r=>
   simp only;cases h1:A.zdW 1 with
   |none=>exact zaS.none _ _ _
   |some r1=>
    rw[zjw M h1];cases r1 with
    |error k=>exact zaS.error _ _ _
    |ok l=>
     simp only;have hl:2<=A.st.length:=by
      unfold Ma.zdW at h1;split at h1
      ·omega
      ·cases h1
     obtain ⟨q1,q2⟩:=zhQ M.rel hl;rw[q1];exact zvd (m:={ m with s:={ m.s with top:=m.s.top+2 } }) (A:={ A with st:=zcE A.st 2 }) ⟨q2,M.half,M.fuel,M.next,M.below,M.vi⟩ sg l r
variable {sl:List Nat} {hf:Nat} {m:MSt} {A:Ma} {φ:Nat->Option Nat}{s:Sto}{fc:List Int}{st:List Wd}{fns:List Nat}{p a:Nat}
theorem Rel.zi2(R:Rel s fc h st fns φ)(hp:φ a=some p)(hn:h[a]?=some nd)(hf:zaV nd=false):s.low<=p/\p+sz nd<=s.free/\AtC s.ws (Rf φ h) p nd:=by
 obtain ⟨q,e,h1,h2,h3,h4⟩:=R.zfo (x:=p) ⟨p,rfl,.inl hp⟩ hn hf;have:q=p:=by omega
 subst this;exact ⟨h2,h3,h4⟩
theorem zgn(h:st.getLast?=some w):0<st.length/\st[st.length-1]?=some w:=by
 rw[List.getLast?_eq_getElem?]at h;exact ⟨by have:=(zyL.1 h).1;omega,h⟩
theorem Rel.zdB(R:Rel s fc h st fns φ)(ht:st.getLast?=some (.ad a))(hn:h[a]?=some nd)(hf:zaV nd=false):∃ p,φ a=some p/\s.nodeAt 0=some (p,hdr nd)/\s.ws[s.top]?=some (p:Int)/\s.low<=p/\p+sz nd<=s.free/\AtC s.ws (Rf φ h) p nd:=by
 obtain ⟨h0,h1⟩:=zgn ht;obtain ⟨w,x,w1,w2,w3⟩:=R.word (d:=0) h0;rw[zAl,h1]at w1;cases w1;obtain ⟨p,rfl,p2,p3,p4,p5⟩:=R.zfo w3 hn hf;rw[zzO]at w2;refine ⟨p,p2,?_,w2,p3,p4,p5⟩;unfold Sto.nodeAt;rw[zzO,w2];simp only;rw[if_neg (by omega),zy2,p5.head (R.ok a nd hn) rfl];rfl
theorem zi9(h:zo6 nd)(hf:zaV nd=false):cnt (hdr nd)=(zdd nd).length:=by
 unfold cnt;exact ztf h hf
variable {nd':Nd}
theorem zqC(hn:h[a]?=some nd)(hf:zaV nd=false):∀ (c b:Nat),h[c]?=some (.fwd b)->(h.set a nd')[c]?=some (.fwd b):=by
 intro c b hb;rw[zyV,if_neg (fun e=>by subst e;rw[hn]at hb;cases hb;simp[zaV]at hf)];exact hb
theorem zw3(hv:VI sl h)(hn:h[a]?=some nd)(_hf:zaV nd=false)(h1:zaV nd'=false)(h2:val sl nd->val sl nd'):VI sl (h.set a nd'):=by
 have aU:=(zyL.1 hn).1;intro c b hb;rw[zyV]at hb;by_cases e0:a=c
 ·rw[if_pos e0,if_pos aU]at hb;cases hb;simp[zaV]at h1
 ·rw[if_neg e0]at hb;obtain ⟨n,g1,g2⟩:=hv c b hb;by_cases e:a=b
  ·subst e;rw[hn]at g1;cases g1;exact ⟨nd',by rw[zyV,if_pos rfl,if_pos aU],h2 g2⟩
  ·exact ⟨n,by rw[zyV,if_neg e];exact g1,g2⟩
theorem zvw(M:MR sl hf m A φ)(k c:Nat):zaS sl hf (m.zln k c) (A.fill k c):=by
 unfold Ma.fill;cases hs:A.slot k with
 |none=>exact zaS.none _ _ _
 |some w=>
  cases w with
  |mk _ _=>exact zaS.none _ _ _
  |ad a=>
   simp only;cases hn:A.h[a]? with
   |none=>exact zaS.none _ _ _
   |some nd=>
    cases nd with
    |clo b fs=>
     simp only;split
     ·next bZ=>
      cases ht:zlT A.st c with
      |none=>exact zaS.none _ _ _
      |some gs=>
       obtain ⟨i,x,s1,s2,s3,s4,s5⟩:=zqU M hs;obtain ⟨p,rfl,p2,p3,p4,p5⟩:=M.rel.zfo s3 hn rfl;obtain ⟨t1,t2,t3⟩:=ziX ht;obtain ⟨w1,w2⟩:=M.rel.zlT ht;have bU:=M.rel.ok a _ hn;have fg:=M.rel.tp;have gS:=M.rel.hi;have iY:=M.rel.ft;have cT:sz (.clo b fs)=1+c:=by simp[sz,bZ]
       rw[cT]at p4;have iG:cnt (hdr (.clo b fs))=c:=by rw[zi9 bU rfl];exact bZ
       unfold MSt.zln;rw[s1];simp only;rw[s2];simp only;rw[if_neg (by omega),zy2,p5.head bU rfl];simp only;rw[if_pos ⟨iG,by omega,by omega,by omega⟩];have aY:∀ j,(Go.splice m.s.ws (p+1) (m.s.words m.s.top c))[j]?=if j<p+1 then m.s.ws[j]? else if j<p+1+c then (m.s.words m.s.top c)[j-(p+1)]? else m.s.ws[j]?:=fun j=>by
        rw[zbu _ _ _ _ (by rw[w1];omega),w1]
       have R2:=M.rel.zxM (ws':=Go.splice m.s.ws (p+1) (m.s.words m.s.top c)) (nd':=.clo b gs) p2 hn rfl ⟨bU.1,by rw[t2];exact bZ ▸ bU.2⟩ (by simp[sz,bZ,t2]) (zzM _ _ _ (by rw[w1];omega))
        (fun j hj=>by rw[cT]at hj;rw[aY];by_cases h1:j<p+1;rw[if_pos h1];rw[if_neg h1,if_neg (by omega)])
        (.inr ⟨rfl,by rw[aY,if_pos (by omega),p5.1];simp[hdr,bZ,t2],fun v hv=>(by cases hv),fun i f dr=>by
         obtain ⟨y,y1,y2⟩:=w2 i f dr;have:=(zyL.1 y1).1;exact ⟨y,by rw[aY,if_neg (by omega),if_pos (by omega),show p+1+i-(p+1)=i by omega];exact y1,y2.mono (fun _ _ z=>z) (zqC hn rfl)⟩⟩)
        (fun e=>by simp[zaV]at e) (fun b' e=>by cases e)
       obtain ⟨q1,q2⟩:=zhQ R2 t1;unfold MSt.put;rw[q1];refine zaS.ok ⟨q2,M.half,M.fuel,M.next,M.below,zw3 M.vi hn rfl rfl (fun hv=>?_)⟩;obtain ⟨n,n1,n2⟩:=hv;exact ⟨n,n1,by rw[t2];rw[bZ]at n2;exact n2⟩
     ·exact zaS.none _ _ _
    |_=>exact zaS.none _ _ _
variable {b n:Nat}{fs:List Nat}
theorem zsF(M:MR sl hf m A φ)(ht:A.st.getLast?=some (.ad a))(hn:A.h[a]?=some (.clo b fs))(hb:sl[b]?=some n)(hl:n=fs.length):zaS sl hf m.zdy (A.zdy hf a b fs):=by
 have bU:=M.rel.ok a _ hn;obtain ⟨p,p1,p2,p3,p4,p5,p6⟩:=M.rel.zdB ht hn rfl;unfold MSt.zdy;rw[p2];simp only;have hc:cnt (hdr (.clo b fs))=fs.length:=zi9 bU rfl;rw[hc];refine zcS M (fun m1 φ1 M1 hr ho=>?_);obtain ⟨q,q1,q2,q3,q4,q5,q6⟩:=M1.rel.zdB ht hn rfl;obtain ⟨u1,u2⟩:=zc5 M1.rel (x:=Mk 0 0) (w:=.mk 0 0) (by omega) rfl;obtain ⟨s2,e2⟩:∃ s2:Sto,s2={ m1.s with top:=m1.s.top-1,ws:=m1.s.ws.set (m1.s.top-1) (Mk 0 0) }:=⟨_,rfl⟩;rw[<-e2]at u1 u2;have g2:s2.free=m1.s.free/\s2.top=m1.s.top-1:=by rw[e2];exact ⟨rfl,rfl⟩
 obtain ⟨a1,a2,a3⟩:=u2.zi2 q1 hn rfl;have cT:sz (.clo b fs)=1+fs.length:=rfl;have ss:=u2.hi;have se:=u2.ft;have tu:=u2.tp;obtain ⟨f1,f2⟩:=a3.fields (by simp only[zdd];omega);simp only[zdd]at f1 f2;obtain ⟨v1,v2⟩:=zgq u2 (fs:=fs) f1 (by rw[f1];omega) f2;obtain ⟨s3,e3⟩:∃ s3:Sto,s3={ s2 with top:=s2.top-(s2.words (q+1) fs.length).length,ws:=Go.splice s2.ws (s2.top-(s2.words (q+1) fs.length).length) (s2.words (q+1) fs.length) }:=⟨_,rfl⟩;rw[<-e3]at v1 v2;have h3:s3.half=m1.s.half:=by rw[e3,e2]
 obtain ⟨b1,b2,b3⟩:=v2.zi2 q1 hn rfl;have p7:=(zyL.1 b3.1).1;have R4:=v2.zxM (ws':=s3.ws.set q (Hd 3 0 0)) (nd':=.busy) q1 hn rfl trivial (by simp[sz]) (by simp) (fun j hj=>by rw[zyV,if_neg (by omega)])
  (.inr ⟨rfl,(by rw[zyV,if_pos rfl,if_pos p7];rfl),fun v hv=>(by cases hv),fun i f dr=>(by simp[zdd]at dr)⟩) (fun e=>by simp[zaV]at e) (fun b' e=>by cases e)
 unfold MSt.begun;rw[q2];simp only;rw[u1];simp only;rw[a3.head bU rfl];simp only;rw[hc,if_neg (by omega),v1];simp only;rw[b3.head bU rfl];simp only[zzP];refine zaS.ok (φ:=φ1) ⟨R4,h3.trans M1.half,M1.fuel,?_,M1.below,zw3 M1.vi hn rfl rfl (fun hv=>?_)⟩
 ·simp only[hdr];exact zdE (by omega) bU.2
 ·obtain ⟨n',n1,n2⟩:=hv;rw[hb]at n1;cases n1;omega
theorem zrg(M:MR sl hf m A φ)(zao:List (Nat × Nat × Nat)):zaS sl hf (m.choose zao) (A.choose hf zao):=by
 unfold Ma.choose;cases ht:A.st.getLast? with
 |none=>exact zaS.none _ _ _
 |some w=>
  cases w with
  |mk _ _=>exact zaS.none _ _ _
  |ad a=>
   simp only;cases hn:A.h[a]? with
   |none=>exact zaS.none _ _ _
   |some nd=>
    cases nd with
    |num v=>
     obtain ⟨p,p1,p2,_⟩:=M.rel.zdB ht hn rfl;unfold MSt.choose;rw[p2];simp only;rw[if_neg (by simp[hdr])];exact zaS.error _ _ _
    |clo b fs=>
     obtain ⟨p,p1,p2,_⟩:=M.rel.zdB ht hn rfl;unfold MSt.choose;rw[p2];simp only;rw[if_neg (by simp only[hdr];rw[zbx (by omega)];omega)];exact zaS.error _ _ _
    |data t fs=>
     obtain ⟨p,p1,p2,_⟩:=M.rel.zdB ht hn rfl;have bU:=M.rel.ok a _ hn;have hk:hdr (.data t fs)%16=1:=by simp only[hdr];exact zbx (by omega)
     have hw:hdr (.data t fs)/65536=(t:Int):=by simp only[hdr];exact zdE (by omega) bU.2
     have hc:cnt (hdr (.data t fs))=fs.length:=zi9 bU rfl;unfold MSt.choose;rw[p2];simp only;rw[if_pos hk];clear p1
     induction zao with
     |nil=>exact zaS.error _ _ _
     |cons arm l ih=>
      obtain ⟨u,c,b⟩:=arm;rw[MSt.zcc,Ma.zcc,hw];by_cases hu:u=t
      ·rw[if_pos (by omega),if_pos hu];unfold MSt.split;rw[p2];simp only;rw[hc];by_cases uH:c=fs.length
       ·rw[if_pos uH,if_pos uH];refine zcS M (fun m1 φ1 M1 hr ho=>?_);obtain ⟨q,q1,q2,q3,q4,q5,q6⟩:=M1.rel.zdB ht hn rfl;obtain ⟨g0,_⟩:=zgn ht;obtain ⟨u1,u2⟩:=zhQ M1.rel (c:=1) (by omega);obtain ⟨a1,a2,a3⟩:=u2.zi2 q1 hn rfl;have cT:sz (.data t fs)=1+fs.length:=rfl;have ss:=u2.hi;have se:=u2.ft;have tu:=u2.tp;simp only at a2 ss se tu;obtain ⟨f1,f2⟩:=a3.fields (s:={ m1.s with top:=m1.s.top+1 }) (by simp only[zdd];omega);obtain ⟨v1,v2⟩:=zgq u2 (fs:=fs) f1 (by rw[f1];simp only[zdd];omega) f2;unfold MSt.zqM;rw[q2];simp only;rw[u1];simp only;rw[hc,if_neg (by omega)];simp only[zdd]at v1;rw[v1];simp only[zzP];exact zaS.ok (φ:=φ1) ⟨v2,M1.half,M1.fuel,rfl,M1.below,M1.vi⟩
       ·rw[if_neg uH,if_neg uH];exact zaS.error _ _ _
      ·rw[if_neg (by omega),if_neg hu];exact ih
    |_=>exact zaS.none _ _ _
variable {sl:List Nat} {hf:Nat} {m:MSt} {A:Ma} {φ:Nat->Option Nat}
theorem zmd{i:Nat}(h:(zcE st c)[i]?=some w):st[i]?=some w:=by
 unfold zcE at h;rw[zzy]at h;split at h
 ·exact h
 ·cases h
theorem zdF(st:List Wd)(c:Nat):(zcE st c).length=st.length-c:=by unfold zcE;rw[zzf];omega
theorem zrs(M:MR sl hf m A φ)(ht:A.st.getLast?=some (.ad a))(hn:A.h[a]?=some (.clo b fs))(_hb:sl[b]?=some n):zaS sl hf (m.extend c) (A.extend hf b c fs):=by
 have bU:=M.rel.ok a _ hn;obtain ⟨p,p1,p2,p3,p4,p5,p6⟩:=M.rel.zdB ht hn rfl;have hc:cnt (hdr (.clo b fs))=fs.length:=zi9 bU rfl;unfold MSt.extend;rw[p2];simp only;rw[hc];refine zcS M (fun m1 φ1 M1 hr ho=>?_);split
 ·next hg=>
  cases fg:zlT (zcE A.st 2) c with
  |none=>exact zaS.none _ _ _
  |some gs=>
   obtain ⟨t1,t2,t3⟩:=ziX fg;rw[zdF]at t1;obtain ⟨q,q1,q2,q3,q4,q5,q6⟩:=M1.rel.zdB ht hn rfl;have cT:sz (.clo b fs)=1+fs.length:=rfl;have gS:=M1.rel.hi;have iY:=M1.rel.ft;have yd:=M1.rel.tp;obtain ⟨f1,f2⟩:=q6.fields (by simp only[zdd];omega);simp only[zdd]at f1 f2;have hw:hdr (.clo b fs)/65536=(b:Int):=by simp only[hdr];exact zdE (by omega) bU.2
   have bg:m1.s.node (Hd 2 b (fs.length+c)) (m1.s.words (q+1) fs.length)=some { m1.s with free:=m1.s.free+1+fs.length,ws:=Go.splice (m1.s.ws.set m1.s.free (Hd 2 b (fs.length+c))) (m1.s.free+1) (m1.s.words (q+1) fs.length) }:=by
    unfold Sto.node;rw[f1,if_pos (by omega)]
   obtain ⟨s2,e2⟩:∃ s2:Sto,s2={ m1.s with free:=m1.s.free+1+fs.length,ws:=Go.splice (m1.s.ws.set m1.s.free (Hd 2 b (fs.length+c))) (m1.s.free+1) (m1.s.words (q+1) fs.length) }:=⟨_,rfl⟩;rw[<-e2]at bg;have rq:s2.free=m1.s.free+1+fs.length:=by rw[e2]
   have DJ:s2.top=m1.s.top:=by rw[e2]
   have zB:s2.ws.length=m1.s.ws.length:=by rw[e2];simp only;rw[zzM _ _ _ (by rw[zy6,f1];omega),zy6]
   have gI:∀ j,s2.ws[j]?=if j=m1.s.free then some (Hd 2 b (fs.length+c)) else if m1.s.free<j/\j<m1.s.free+1+fs.length then (m1.s.words (q+1) fs.length)[j-(m1.s.free+1)]? else m1.s.ws[j]?:=by
    intro j;rw[e2];simp only;rw[zbu _ _ _ _ (by rw[zy6,f1];omega),f1];by_cases h1:j=m1.s.free
    ·rw[if_pos (by omega),if_pos h1,h1,zyV,if_pos rfl,if_pos (by omega)]
    ·have cS:(m1.s.ws.set m1.s.free (Hd 2 b (fs.length+c)))[j]?=m1.s.ws[j]?:=by rw[zyV,if_neg (fun e=>h1 e.symm)]
     rw[if_neg h1];by_cases h2:j<m1.s.free+1
     ·rw[if_pos h2,if_neg (by omega),cS]
     ·rw[if_neg h2];by_cases h3:j<m1.s.free+1+fs.length
      ·rw[if_pos h3,if_pos (by omega)]
      ·rw[if_neg h3,if_neg (by omega),cS]
   have eE:(s2.words (s2.top+2) c).length=c:=by unfold Sto.words;rw[zzf,zzu];omega
   have Fs:∀ i,i<c->(s2.words (s2.top+2) c)[i]?=m1.s.ws[m1.s.top+(2+i)]?:=fun i hi=>by
    unfold Sto.words;rw[zzy,if_pos hi,zzx,DJ,gI,if_neg (by omega),if_neg (by omega),show m1.s.top+2+i=m1.s.top+(2+i) by omega]
   obtain ⟨pC,e3⟩:∃ pC,pC=Go.splice s2.ws s2.free (s2.words (s2.top+2) c):=⟨_,rfl⟩;have DK:pC.length=m1.s.ws.length:=by rw[e3,zzM _ _ _ (by rw[eE];omega),zB]
   have jG:∀ j,pC[j]?=if j<s2.free then s2.ws[j]? else if j<s2.free+c then (s2.words (s2.top+2) c)[j-s2.free]? else s2.ws[j]?:=fun j=>by rw[e3,zbu _ _ _ _ (by rw[eE];omega),eE]
   have ph:sz (.clo b (fs++gs))=1+fs.length+c:=by simp[sz,t2];omega
   have kV:∀ (i f:Nat),(zdd (.clo b (fs++gs)))[i]?=some f->∃ x,pC[m1.s.free+1+i]?=some x/\Rf (grow φ1 A.h.length m1.s.free) (A.h++[.clo b (fs++gs)]) x f:=by
    intro i f dr;simp only[zdd]at dr;rw[zzj]at dr;split at dr
    ·next br=>
     obtain ⟨x,x1,x2⟩:=f2 i f dr;refine ⟨x,?_,x2.mono (M1.rel.grown _) zhE⟩;rw[jG,if_pos (by omega),gI,if_neg (by omega),if_pos (by omega),show m1.s.free+1+i-(m1.s.free+1)=i by omega];exact x1
    ·next br=>
     have fX:=(zyL.1 dr).1;have dY:=zmd (t3 (i-fs.length) f dr);rw[zdF]at dY;obtain ⟨w,x,w1,w2,w3⟩:=M1.rel.word (d:=2+(i-fs.length)) (by omega);rw[show A.st.length-1-(2+(i-fs.length))=A.st.length-2-1-(i-fs.length) by omega,dY]at w1;cases w1;refine ⟨x,?_,Rf.mono (M1.rel.grown _) zhE w3⟩;rw[jG,if_neg (by omega),if_pos (by omega),show m1.s.free+1+i-s2.free=i-fs.length by omega,Fs _ (by omega)];exact w2
   have R2:=M1.rel.alloc (ws':=pC) (nd:=.clo b (fs++gs)) ⟨bU.1,by rw[zyT,t2];exact hg.1⟩ rfl (by rw[ph];omega) DK (fun j hj=>by
    rw[ph]at hj;rw[jG];by_cases h1:j<s2.free
    ·rw[if_pos h1,gI,if_neg (by omega),if_neg (by omega)]
    ·rw[if_neg h1,if_neg (by omega),gI,if_neg (by omega),if_neg (by omega)])
    ⟨(by rw[jG,if_pos (by omega),gI,if_pos rfl];simp only[hdr];rw[zyT,t2]),(fun v hv=>(by cases hv)),kV⟩
   rw[ph]at R2;obtain ⟨u1,u2⟩:=zhQ R2 (c:=2+c) (by omega);obtain ⟨v1,v2⟩:=zc5 u2 (x:=m1.s.free) (w:=.ad A.h.length) (by simp only;omega) ⟨m1.s.free,rfl,.inl (by simp[grow])⟩;unfold MSt.extended;rw[q2];simp only;rw[hc,hw,zy2,if_pos ⟨hg.1,by have:=bU.1;omega,by omega,by omega,hg.2⟩,bg];simp only;rw[if_pos ⟨by rw[gI,if_neg (by omega),if_neg (by omega)];exact q6.1,zB,by omega,by omega⟩];have bP:({ s2 with ws:=Go.splice s2.ws s2.free (s2.words (s2.top+2) c),free:=s2.free+c }:Sto)={ m1.s with ws:=pC,free:=m1.s.free+(1+fs.length+c) }:=by
    rw[<-e3,rq];rw[e2];simp only[Sto.mk.injEq];refine ⟨trivial,trivial,trivial,by omega,trivial⟩
   rw[bP,u1];simp only[zzD];rw[v1];simp only[zzP];exact zaS.ok ⟨v2,M1.half,M1.fuel,M1.next,M1.below,zoT M1.vi rfl⟩
 ·exact zaS.none _ _ _
theorem ztq(R:Rel s fc h st fns φ){lk lf:Nat}(hl:lk<=st.length)(kg:lf≠0)(bZ:lf<=1000000)(ew:s.free+1<=s.top):∃ s',s.leave lk lf=some s'/\Rel s' fc h (leave st lk lf) fns φ/\s'.free=s.free/\s'.top=s.top-1/\s'.half=s.half/\s'.ws.length=s.ws.length:=by
 have fg:=R.tp;have gS:=R.hi;have aN:(s.words s.top lk).length=lk:=by unfold Sto.words;rw[zzf,zzu];omega
 have aK:(Go.splice s.ws (s.top-1) (s.words s.top lk)).length=s.ws.length:=zzM _ _ _ (by rw[aN];omega);refine ⟨{ s with top:=s.top-1,ws:=(Go.splice s.ws (s.top-1) (s.words s.top lk)).set (s.top-1+lk) (Mk 2 lf) },?_,?_,rfl,rfl,rfl,by simp only[zy6];exact aK⟩
 ·unfold Sto.leave;rw[if_pos ⟨by omega,by omega,bZ⟩]
 ·have aY:∀ j,((Go.splice s.ws (s.top-1) (s.words s.top lk)).set (s.top-1+lk) (Mk 2 lf))[j]?=if j=s.top-1+lk then some (Mk 2 lf) else if s.top-1<=j/\j<s.top-1+lk then s.ws[j+1]? else s.ws[j]?:=by
   intro j;rw[zyV,aK];by_cases h1:s.top-1+lk=j
   ·rw[if_pos h1,if_pos (by omega),if_pos h1.symm]
   ·have iB:¬ j=s.top-1+lk:=fun e=>h1 e.symm
    rw[if_neg h1,if_neg iB,zbu _ _ _ _ (by rw[aN];omega),aN];by_cases h2:j<s.top-1
    ·rw[if_pos h2,if_neg (by omega)]
    ·rw[if_neg h2];by_cases h3:j<s.top-1+lk
     ·rw[if_pos h3,if_pos (by omega)];unfold Sto.words;rw[zzy,if_pos (by omega),zzx];congr 1;omega
     ·rw[if_neg h3,if_neg (by omega)]
  unfold leave;rw[if_neg kg];refine R.zeV (by rw[zy6];exact aK) (fun j h1 h2=>by rw[aY,if_neg (by omega),if_neg (by omega)]) (by omega) (by simp;omega) (fun i w hw=>?_);rw[aY];rw[zzk,zzj,zzf,zzV (by omega)]at hw;split at hw
  ·next br=>
   rw[zzy,if_pos br]at hw;obtain ⟨y,y1,y2⟩:=R.stk i w hw;exact ⟨y,by rw[if_neg (by omega),if_neg (by omega)];exact y1,y2⟩
  ·next br=>
   by_cases h0:i=st.length-lk
   ·subst h0;simp at hw;subst hw;exact ⟨Mk 2 lf,by rw[if_pos (by omega)],rfl⟩
   ·rw[List.singleton_append,show i-(st.length-lk)=(i-(st.length-lk)-1)+1 by omega,zzT,zzx]at hw;have aj:=(zyL.1 hw).1;obtain ⟨y,y1,y2⟩:=R.stk _ w hw;refine ⟨y,?_,y2⟩;rw[if_neg (by omega),if_pos (by omega),<-y1];congr 1;omega
theorem zvi(M:MR sl hf m A φ){lk lf:Nat}(ht:A.st.getLast?=some (.ad a))(hn:A.h[a]?=some (.clo b fs))(_hb:sl[b]?=some n):zaS sl hf (m.call lk lf) (A.call hf b lk lf fs):=by
 have bU:=M.rel.ok a _ hn;obtain ⟨p,p1,p2,p3,p4,p5,p6⟩:=M.rel.zdB ht hn rfl;have hc:cnt (hdr (.clo b fs))=fs.length:=zi9 bU rfl;unfold MSt.call;rw[p2];simp only;rw[hc];refine zcS M (fun m1 φ1 M1 hr ho=>?_);split
 ·next hg=>
  obtain ⟨q,q1,q2,q3,q4,q5,q6⟩:=M1.rel.zdB ht hn rfl;have cT:sz (.clo b fs)=1+fs.length:=rfl;have gS:=M1.rel.hi;have iY:=M1.rel.ft;have yd:=M1.rel.tp;obtain ⟨u1,u2⟩:=zhQ M1.rel (c:=2) (by omega);have hcut:A.st.take (A.st.length-2)=zcE A.st 2:=rfl;rw[hcut]at u2;have hL:∃ s3,(if lf=0 then some { m1.s with top:=m1.s.top+2 } else Sto.leave { m1.s with top:=m1.s.top+2 } lk lf)=some s3/\Rel s3 m1.fns A.h (leave (zcE A.st 2) lk lf) A.fns φ1/\s3.free=m1.s.free/\m1.s.top<=s3.top/\s3.half=m1.s.half/\s3.ws.length=m1.s.ws.length:=by
   by_cases h0:lf=0
   ·rw[if_pos h0];refine ⟨_,rfl,?_,rfl,by simp only;omega,rfl,rfl⟩;unfold leave;rw[if_pos h0];exact u2
   ·rw[if_neg h0];obtain ⟨s3,l1,l2,l3,l4,l5,l6⟩:=ztq u2 (lk:=lk) (lf:=lf) (by rw[zdF];omega) h0 hg.2 (by simp only;omega);exact ⟨s3,l1,l2,l3,by rw[l4];simp only;omega,l5,l6⟩
  obtain ⟨s3,l1,l2,l3,l4,l5,l6⟩:=hL;obtain ⟨a1,a2,a3⟩:=l2.zi2 q1 hn rfl;have EA:=l2.hi;have Ev:=l2.ft;have Fg:=l2.tp;obtain ⟨f1,f2⟩:=a3.fields (by simp only[zdd];omega);simp only[zdd]at f1 f2;obtain ⟨v1,v2⟩:=zgq l2 (fs:=fs) f1 (by rw[f1];omega) f2;obtain ⟨s4,e4⟩:∃ s4:Sto,s4={ s3 with top:=s3.top-(s3.words (q+1) fs.length).length,ws:=Go.splice s3.ws (s3.top-(s3.words (q+1) fs.length).length) (s3.words (q+1) fs.length) }:=⟨_,rfl⟩;rw[<-e4]at v1 v2;have h4:s4.half=m1.s.half:=by rw[e4];exact l5
  obtain ⟨b1,b2,b3⟩:=v2.zi2 q1 hn rfl;unfold MSt.called;rw[q2];simp only;rw[u1];simp only;rw[l1];simp only;rw[a3.head bU rfl];simp only;rw[hc,if_neg (by omega),v1];simp only;rw[b3.head bU rfl];simp only[zzP];refine zaS.ok (φ:=φ1) ⟨v2,h4.trans M1.half,M1.fuel,?_,M1.below,M1.vi⟩;simp only[hdr];exact zdE (by omega) bU.2
 ·exact zaS.none _ _ _
theorem zpc(M:MR sl hf m A φ)(c:Nat){r:Except Nat (Bool × Ma)}(h:A.za5 hf sl c=some r):
  match r with
  |.error k=>m.za5 sl c=some (.error k)
  |.ok q=>∃ m' φ',m.za5 sl c=some (.ok (q.1,m'))/\MR sl hf m' q.2 φ':=by
 unfold Ma.za5 at h;cases ht:A.st.getLast? with
 |none=>rw[ht]at h;simp at h
 |some w=>
  rw[ht]at h;cases w with
  |mk _ _=>simp at h
  |ad a=>
   simp only at h;cases hn:A.h[a]? with
   |none=>rw[hn]at h;simp at h
   |some nd=>
    rw[hn]at h;have hl:∀ nd',A.h[a]?=some nd'->zaV nd'=false->∃ p,m.s.nodeAt 0=some (p,hdr nd')/\m.s.head p=some (hdr nd')/\m.s.ws[p]?=some (hdr nd')/\0<=hdr nd'/\hdr nd' < 9223372036854775808:=fun nd' gw dr=>by
     obtain ⟨p,p1,p2,p3,p4,p5,p6⟩:=M.rel.zdB ht gw dr;obtain ⟨r1,r2⟩:=zde (M.rel.ok a _ gw);exact ⟨p,p2,p6.head (M.rel.ok a _ gw) rfl,p6.1,r1,r2⟩
    cases nd with
    |num v=>
     simp only at h;cases h;obtain ⟨p,h1,h2,h3,h4,h5⟩:=hl _ hn rfl;simp only;unfold MSt.za5;rw[h1];simp only;unfold Sto.zfJ;rw[h3];simp only;rw[if_neg (by omega),if_neg (by simp[hdr])];simp
    |data t fs=>
     simp only at h;cases h;obtain ⟨p,h1,h2,h3,h4,h5⟩:=hl _ hn rfl;simp only;unfold MSt.za5;rw[h1];simp only;unfold Sto.zfJ;rw[h3];simp only;rw[if_neg (by omega),if_neg (by simp only[hdr];rw[zbx (by omega)];omega)];simp
    |clo b fs=>
     simp only at h;obtain ⟨p,h1,h2,h3,h4,h5⟩:=hl _ hn rfl;have bU:=M.rel.ok a _ hn;cases hb:sl[b]? with
     |none=>rw[hb]at h;simp at h
     |some n=>
      rw[hb]at h;simp only at h;split at h
      ·cases h
      ·next aj=>
       have mO:m.s.zfJ sl p=some ((n:Int)-fs.length):=by
        unfold Sto.zfJ;rw[h3];simp only;rw[if_neg (by omega),if_pos (by simp only[hdr];exact zbx (by omega))];have hw:hdr (.clo b fs)/65536=(b:Int):=by simp only[hdr];exact zdE (by omega) bU.2
        have iG:hdr (.clo b fs)/16%4096=(fs.length:Int):=by simp only[hdr];exact zeb (by omega) bU.2
        rw[hw,zy2,hb,iG]
       have Fj:m.za5 sl c=(if (c:Int)<(n:Int)-fs.length then (match m.extend c with|none=>none|some (.error k)=>some (.error k)|some (.ok m')=>some (.ok (false,m'))) else if 2000000<c then none else (match m.call (n-fs.length) (c-(n-fs.length)) with|none=>none|some (.error k)=>some (.error k)|some (.ok m')=>some (.ok (true,m')))):=by
        unfold MSt.za5;rw[h1];simp only;rw[mO];simp only;rw[if_neg (by omega),show ((n:Int)-fs.length).toNat=n-fs.length by omega];rfl
       rw[Fj];split at h
       ·next aN=>
        rw[if_pos (by omega)];cases he:A.extend hf b c fs with
        |none=>rw[he]at h;simp at h
        |some q=>
         rw[he]at h;have hs:=zrs M (c:=c) ht hn hb q he;cases q with
         |error k=>simp only at h hs;cases h;simp only;rw[hs]
         |ok A'=>
          simp only at h hs;cases h;obtain ⟨m',φ',g1,g2⟩:=hs;simp only;rw[g1];exact ⟨m',φ',rfl,g2⟩
       ·next aN=>
        rw[if_neg (by omega)];split at h
        ·cases h
        ·next DI=>
         rw[if_neg DI];cases he:A.call hf b (n-fs.length) (c-(n-fs.length)) fs with
         |none=>rw[he]at h;simp at h
         |some q=>
          rw[he]at h;have hs:=zvi M (lk:=n-fs.length) (lf:=c-(n-fs.length)) ht hn hb q he;cases q with
          |error k=>simp only at h hs;cases h;simp only;rw[hs]
          |ok A'=>
           simp only at h hs;cases h;obtain ⟨m',φ',g1,g2⟩:=hs;simp only;rw[g1];exact ⟨m',φ',rfl,g2⟩
    |busy=>simp at h
    |fwd b=>simp at h
variable {sl:List Nat} {hf:Nat} {m:MSt} {A:Ma} {φ:Nat->Option Nat}
theorem zne(hk:k<4)(hb:b<1000000000):waits (Mk k b)=some (k,b):=by
 unfold waits Mk;rw[if_pos (by omega)];congr 2
 ·omega
 ·omega
theorem zsi(M:MR sl hf m A φ){v j0:Nat}{nv:Nd}(h3:3<=A.st.length)(hv:A.st[A.st.length-1]?=some (.ad v))(_hk:A.st[A.st.length-2]?=some (.mk 0 j0))(hc:A.st[A.st.length-3]?=some (.ad c))(hb:A.h[c]?=some .busy)(ay:A.h[v]?=some nv)(ed:val sl nv):
  ∃ s',m.s.update=some s'/\MR sl hf { m with s:=s' } { A with h:=A.h.set c (.fwd v),st:=zcE A.st 3++[.ad v] } φ:=by
 have AU:=zxZ ed;have AT:v≠c:=fun e=>by subst e;rw[hb]at ay;cases ay;exact ed
 have fg:=M.rel.tp;have gS:=M.rel.hi;have iY:=M.rel.ft;have eE:=M.rel.wl;obtain ⟨w,x,w1,w2,w3⟩:=M.rel.word (d:=0) (by omega);rw[zAl,hv]at w1;cases w1;rw[zzO]at w2;obtain ⟨w,y,y1,y2,y3⟩:=M.rel.word (d:=2) (by omega);rw[show A.st.length-1-2=A.st.length-3 by omega,hc]at y1;cases y1;obtain ⟨pv,rfl,v2,v3,v4,v5⟩:=M.rel.zfo w3 ay AU;obtain ⟨pc,rfl,c2,c3,c4,c5⟩:=M.rel.zfo y3 hb rfl;have hs:=zhd nv;have mT:sz .busy=1:=rfl;rw[mT]at c4;refine ⟨{ m.s with ws:=(m.s.ws.set pc (Hd 4 pv 0)).set (m.s.top+2) pv,top:=m.s.top+2 },?_,?_⟩
 ·unfold Sto.update;rw[w2];simp only;rw[y2];simp only;rw[if_pos ⟨by omega,by omega,by omega,by omega⟩,zy2,zy2]
 ·have mR:∀ (x' b':Nat),A.h[x']?=some (.fwd b')->b'≠c:=fun x' b' hx e=>by
   obtain ⟨n',g1,g2⟩:=M.vi x' b' hx;rw[e,hb]at g1;cases g1;exact g2
  have R1:=M.rel.zxM (ws':=m.s.ws.set pc (Hd 4 pv 0)) (nd':=.fwd v) c2 hb rfl trivial (by simp[sz]) (by simp) (fun j hj=>by rw[zyV,if_neg (by simp only[sz]at hj;omega)])
   (.inl ⟨v,pv,rfl,v2,by rw[zyV,if_pos rfl,if_pos (by omega)]⟩) (fun _=>mR) (fun b' e=>by cases e;exact ⟨AT,nv,ay,AU⟩)
  have dC:∀ (c' b':Nat),A.h[c']?=some (.fwd b')->(A.h.set c (.fwd v))[c']?=some (.fwd b'):=zqC hb rfl;have R2:=R1.zeV (ws':=(m.s.ws.set pc (Hd 4 pv 0)).set (m.s.top+2) pv) (top':=m.s.top+2) (st':=zcE A.st 3++[.ad v]) (by simp) (fun j h1 h2=>by simp only at h1 h2 ⊢;rw[zyV,if_neg (by omega)]) (by simp only;omega) (by simp only[zyT,zy0,zdF];omega) (fun i w hw=>by
   simp only;rw[zzj,zdF]at hw;split at hw
   ·next br=>
    have fY:=zmd hw;obtain ⟨z,z1,z2⟩:=R1.stk i w fY;simp only at z1;exact ⟨z,by rw[zyV,if_neg (by omega)];exact z1,z2⟩
   ·next br=>
    have:=(zyL.1 hw).1;simp at this;have h1:i-(A.st.length-3)=0:=by omega
    rw[h1]at hw;simp at hw;subst hw;refine ⟨pv,by rw[show m.s.low+m.s.half-1-i=m.s.top+2 by omega,zyV,if_pos rfl,if_pos (by rw[zy6];omega)],⟨pv,rfl,.inl v2⟩⟩)
  refine ⟨R2,M.half,M.fuel,M.next,M.below,fun a b oQ=>?_⟩;have aN:=(zyL.1 hb).1;simp only at oQ ⊢;rw[zyV]at oQ;by_cases e:c=a
  ·rw[if_pos e,if_pos aN]at oQ;cases oQ;exact ⟨nv,by rw[zyV,if_neg (fun e=>AT e.symm)];exact ay,ed⟩
  ·rw[if_neg e]at oQ;obtain ⟨n',g1,g2⟩:=M.vi a b oQ;exact ⟨n',by rw[zyV,if_neg (fun e=>mR a b oQ e.symm)];exact g1,g2⟩
theorem zdT:∀ (g:Nat) (m:MSt) (A:Ma) (φ:Nat->Option Nat),MR sl hf m A φ->zaS sl hf (m.za1 sl g) (A.za1 hf sl g)
 |0,_,_,_,_=>zaS.none _ _ _
 |g+1,m,A,φ,M=>by
  have fg:=M.rel.tp;have iY:=M.rel.ft;have uM:=M.rel.lf;have eE:=M.rel.wl;have gS:=M.rel.hi;rw[Ma.za1,MSt.za1];by_cases h1:A.st.length<=1
  ·rw[if_pos h1,if_pos (by omega)];exact zaS.ok ⟨M.rel,M.half,M.fuel,rfl,M.below,M.vi⟩
  ·rw[if_neg h1,if_neg (by omega)];obtain ⟨w,x,w1,w2,w3⟩:=M.rel.word (d:=1) (by omega);rw[show A.st.length-1-1=A.st.length-2 by omega]at w1;rw[w1];cases w with
   |ad a=>exact zaS.none _ _ _
   |mk k b=>
    have hx:x=Mk k b:=w3;simp only;by_cases iC:1000000000<=b
    ·rw[if_pos iC];exact zaS.none _ _ _
    ·rw[if_neg iC,w2,hx];simp only;by_cases dF:k=0
     ·subst dF;rw[if_pos rfl,zne (by omega) (by omega)];simp only;rw[if_pos trivial];cases hv:A.st[A.st.length-1]? with
      |none=>exact zaS.none _ _ _
      |some wv=>
       cases wv with
       |mk _ _=>exact zaS.none _ _ _
       |ad v=>
        simp only;by_cases h3:3<=A.st.length
        ·rw[if_pos h3];cases hc:A.st[A.st.length-3]? with
         |none=>exact zaS.none _ _ _
         |some wc=>
          cases wc with
          |mk _ _=>exact zaS.none _ _ _
          |ad c=>
           simp only;have go:∀ nv,A.h[c]?=some .busy->A.h[v]?=some nv->val sl nv->zaS sl hf (match m.s.update with|none=>none|some s'=>MSt.za1 sl g { m with s:=s' }) (Ma.za1 hf sl g { A with h:=A.h.set c (.fwd v),st:=zcE A.st 3++[.ad v] }):=fun nv hb ay ed=>by
            obtain ⟨s',u1,u2⟩:=zsi M h3 hv w1 hc hb ay ed;rw[u1];exact zdT g _ _ φ u2
           cases iG:A.h[c]? with
           |none=>exact zaS.none _ _ _
           |some nc=>
            cases hvn:A.h[v]? with
            |none=>cases nc <;> exact zaS.none _ _ _
            |some nv=>
             cases nc with
             |busy=>
              cases nv with
              |num z=>exact go _ iG hvn trivial
              |data t fs=>exact go _ iG hvn trivial
              |clo b' fs=>
               simp only;by_cases ed:∃ n,sl[b']?=some n/\fs.length<n
               ·rw[if_pos ed];exact go _ iG hvn ed
               ·rw[if_neg ed];exact zaS.none _ _ _
              |busy=>exact zaS.none _ _ _
              |fwd _=>exact zaS.none _ _ _
             |num _=>exact zaS.none _ _ _
             |data _ _=>exact zaS.none _ _ _
             |clo _ _=>exact zaS.none _ _ _
             |fwd _=>exact zaS.none _ _ _
        ·rw[if_neg h3];exact zaS.none _ _ _
     ·rw[if_neg dF];by_cases cK:k=1
      ·subst cK;rw[if_pos rfl,zne (by omega) (by omega)];simp only;rw[if_neg (by omega),if_pos trivial];cases hv:A.st[A.st.length-1]? with
       |none=>exact zaS.none _ _ _
       |some wv=>
        cases wv with
        |mk _ _=>exact zaS.none _ _ _
        |ad v=>
         obtain ⟨w,y,y1,y2,y3⟩:=M.rel.word (d:=0) (by omega);rw[zAl,hv]at y1;cases y1;rw[zzO]at y2;simp only;rw[y2];simp only;have R2:=M.rel.zeV (ws':=m.s.ws.set (m.s.top+1) y) (top':=m.s.top+1) (st':=zcE A.st 2++[.ad v]) (by simp) (fun j h1 h2=>by rw[zyV,if_neg (by omega)]) (by omega) (by simp only[zyT,zy0,zdF];omega) (fun i w hw=>by
          rw[zzj,zdF]at hw;split at hw
          ·next br=>
           obtain ⟨z,z1,z2⟩:=M.rel.stk i w (zmd hw);exact ⟨z,by rw[zyV,if_neg (by omega)];exact z1,z2⟩
          ·next br=>
           have:=(zyL.1 hw).1;simp at this;have h1:i-(A.st.length-2)=0:=by omega
           rw[h1]at hw;simp at hw;subst hw;exact ⟨y,by rw[show m.s.low+m.s.half-1-i=m.s.top+1 by omega,zyV,if_pos rfl,if_pos (by omega)],y3⟩)
         have dW:Sto.pop { m.s with ws:=m.s.ws.set (m.s.top+1) y } 1=some { m.s with ws:=m.s.ws.set (m.s.top+1) y,top:=m.s.top+1 }:=by
          unfold Sto.pop;rw[if_pos (by simp only;omega)]
         rw[dW];exact zaS.ok (φ:=φ) ⟨R2,M.half,M.fuel,rfl,M.below,M.vi⟩
      ·rw[if_neg cK];by_cases aG:k=2
       ·subst aG;rw[if_pos rfl,zne (by omega) (by omega)];simp only;rw[if_neg (by omega),if_neg (by omega),if_pos trivial];cases ha:A.za5 hf sl b with
        |none=>exact zaS.none _ _ _
        |some r=>
         have hs:=zpc M b ha;cases r with
         |error j=>
          simp only at hs;rw[hs];exact zaS.error _ _ _
         |ok q=>
          simp only at hs;obtain ⟨m',φ',g1,g2⟩:=hs;rw[g1];simp only;by_cases hq:q.1=true
          ·rw[if_pos hq,if_pos hq];exact zaS.ok g2
          ·rw[if_neg hq,if_neg hq];exact zdT g _ _ _ g2
       ·rw[if_neg aG];exact zaS.none _ _ _
variable {x:Int}
theorem zlM(R:Rel s fc h st fns φ)(h0:0<st.length)(hw:RW φ h x w):Rel { s with ws:=s.ws.set s.top x } fc h (zcE st 1++[w]) fns φ:=by
 have fg:=R.tp;have gS:=R.hi;have iY:=R.ft;have:=R.zeV (ws':=s.ws.set s.top x) (top':=s.top) (st':=zcE st 1++[w]) (by simp) (fun j h1 h2=>by rw[zyV,if_neg (by omega)]) iY (by simp only[zyT,zy0,zdF];omega) (fun i w' fY=>by
  rw[zzj,zdF]at fY;split at fY
  ·next br=>
   obtain ⟨z,z1,z2⟩:=R.stk i w' (zmd fY);exact ⟨z,by rw[zyV,if_neg (by omega)];exact z1,z2⟩
  ·next br=>
   have:=(zyL.1 fY).1;simp at this;have h1:i-(st.length-1)=0:=by omega
   rw[h1]at fY;simp at fY;subst fY;exact ⟨x,by rw[show s.low+s.half-1-i=s.top by omega,zyV,if_pos rfl,if_pos (by omega)],hw⟩)
 exact this
theorem zpr(M:MR sl hf m A φ)(ht:A.st.getLast?=some (.ad a))(hn:A.h[a]?=some nd)(gr:zaV nd=false)(hp:φ a=some p):
  zaS sl hf (m.zcy sl p) (match nd with
   |.busy=>some (.error 5)
   |.num _=>A.za1 hf sl (A.st.length+1)
   |.data _ _=>A.za1 hf sl (A.st.length+1)
   |.clo b fs=>(match sl[b]? with|none=>none|some n=>if n=fs.length then A.zdy hf a b fs else if fs.length<n then A.za1 hf sl (A.st.length+1) else none)
   |_=>none):=by
 have bU:=M.rel.ok a _ hn;obtain ⟨q1,q2,q3⟩:=M.rel.zi2 hp hn gr;obtain ⟨r1,r2⟩:=zde bU;have fg:=M.rel.tp;have hh:m.ztg=A.st.length+1:=by unfold MSt.ztg;omega
 unfold MSt.zcy;rw[q3.head bU rfl];simp only;cases nd with
 |num v=>
  rw[if_neg (by simp[hdr])];unfold Sto.zfJ;rw[q3.1];simp only;rw[if_neg (by omega),if_neg (by simp[hdr])];simp only;rw[if_neg (by omega),hh];exact zdT _ _ _ _ M
 |data t fs=>
  rw[if_neg (by simp only[hdr];rw[zbx (by omega)];omega)];unfold Sto.zfJ;rw[q3.1];simp only;rw[if_neg (by omega),if_neg (by simp only[hdr];rw[zbx (by omega)];omega)];simp only;rw[if_neg (by omega),hh];exact zdT _ _ _ _ M
 |busy=>
  rw[if_pos (by simp only[hdr];exact zbx (by omega))];exact zaS.error _ _ _
 |fwd b=>simp[zaV]at gr
 |clo b fs=>
  simp only;cases hb:sl[b]? with
  |none=>exact zaS.none _ _ _
  |some n=>
   simp only;have mO:m.s.zfJ sl p=some ((n:Int)-fs.length):=by
    unfold Sto.zfJ;rw[q3.1];simp only;rw[if_neg (by omega),if_pos (by simp only[hdr];exact zbx (by omega))];have hw:hdr (.clo b fs)/65536=(b:Int):=by simp only[hdr];exact zdE (by omega) bU.2
    have iG:hdr (.clo b fs)/16%4096=(fs.length:Int):=by simp only[hdr];exact zeb (by omega) bU.2
    rw[hw,zy2,hb,iG]
   rw[if_neg (by simp only[hdr];rw[zbx (by omega)];omega),mO];simp only;by_cases ev:n=fs.length
   ·rw[if_pos (by omega),if_pos ev];exact zsF M ht hn hb ev
   ·rw[if_neg (by omega),if_neg ev];by_cases aj:fs.length<n
    ·rw[if_pos aj,hh];exact zdT _ _ _ _ M
    ·rw[if_neg aj];exact zaS.none _ _ _
theorem znN(M:MR sl hf m A φ):zaS sl hf (m.enter sl) (A.enter hf sl):=by
 unfold Ma.enter;cases ht:A.st.getLast? with
 |none=>exact zaS.none _ _ _
 |some w=>
  cases w with
  |mk _ _=>exact zaS.none _ _ _
  |ad a=>
   obtain ⟨g0,g1⟩:=zgn ht;obtain ⟨w,x,w1,w2,w3⟩:=M.rel.word (d:=0) g0;rw[zAl,g1]at w1;cases w1;rw[zzO]at w2;have fg:=M.rel.tp;have gS:=M.rel.hi;have eE:=M.rel.wl;have sD:(zcE A.st 1++[Wd.ad (can A.h a)]).length=A.st.length:=by simp only[zyT,zy0,zdF];omega
   have tr:(zcE A.st 1++[Wd.ad (can A.h a)]).getLast?=some (.ad (can A.h a)):=by simp
   have key:∃ nd p m',A.h[can A.h a]?=some nd/\zaV nd=false/\φ (can A.h a)=some p/\MR sl hf m' { A with st:=zcE A.st 1++[.ad (can A.h a)] } φ/\m.enter sl=m'.zcy sl p:=by
    obtain ⟨q,rfl,hq⟩:=w3;have plain:∀ (c:Nat) (nd:Nd),φ c=some q->A.h[c]?=some nd->zaV nd=false->can A.h a=c->∃ nd p m',A.h[can A.h a]?=some nd/\zaV nd=false/\φ (can A.h a)=some p/\MR sl hf m' { A with st:=zcE A.st 1++[.ad (can A.h a)] } φ/\m.enter sl=m'.zcy sl p:=fun c nd hc hn gr jk=>by
     obtain ⟨b1,b2,b3⟩:=M.rel.zi2 hc hn gr;have bU:=M.rel.ok c nd hn;have R2:=zlM M.rel (x:=q) (w:=.ad (can A.h a)) g0 ⟨q,rfl,.inl (by rw[jk];exact hc)⟩;rw[zqR w2]at R2;refine ⟨nd,q,m,by rw[jk];exact hn,gr,by rw[jk];exact hc,⟨R2,M.half,M.fuel,M.next,M.below,M.vi⟩,?_⟩;unfold MSt.enter Sto.nodeAt;rw[zzO,w2];simp only;rw[if_neg (by omega),zy2,b3.head bU rfl];simp only[zzP];rw[if_neg (zmn gr).1]
    rcases hq with hq|⟨b,hb,hq⟩
    ·obtain ⟨nd,n1,n2,n3,n4⟩:=M.rel.nod a q hq;rcases n4 with ⟨b,p',rfl,n5,n6⟩|⟨n5,_⟩
     ·obtain ⟨nb,iJ,jZ⟩:=M.rel.fw a b n1;obtain ⟨FJ,c1,c2,c3,_⟩:=M.rel.nod b p' n5;have ak:=M.rel.ft;have hk:Hd 4 p' 0%16=4:=zbx (by omega);have hw:Hd 4 p' 0/65536=(p':Int):=zdE (by omega) (by omega);have jk:can A.h a=b:=zgl n1;have R2:=zlM M.rel (x:=p') (w:=.ad (can A.h a)) g0 ⟨p',rfl,.inl (by rw[jk];exact n5)⟩;refine ⟨nb,p',{ m with s:={ m.s with ws:=m.s.ws.set m.s.top p' } },by rw[jk];exact iJ,jZ,by rw[jk];exact n5,⟨R2,M.half,M.fuel,M.next,M.below,M.vi⟩,?_⟩;have eB:=zhd FJ;unfold MSt.enter Sto.nodeAt Sto.head;rw[zzO,w2];simp only;rw[if_neg (by omega),zy2,n6];simp only;rw[if_neg (by unfold Hd;omega)];simp only[zzP];rw[if_pos hk,if_neg (by omega),hw,zy2]
     ·exact plain a nd hq n1 n5 (zdc n1 n5)
    ·obtain ⟨nb,iJ,jZ⟩:=M.rel.fw a b hb;exact plain b nb hq iJ jZ (zgl hb)
   obtain ⟨nd,p,m',k1,k2,k3,k4,k5⟩:=key;rw[k5];have hs:=zpr k4 tr k1 k2 k3;rw[sD]at hs;simp only;rw[k1];cases nd <;> first|exact hs|simp[zaV]at k2
theorem zwo(M:MR sl hf m A φ)(i:Ins):zaS sl hf (m.step sl i) (A.step hf sl i):=by
 cases i with
 |push k=>exact zoa M k
 |zcW f=>exact zrP M f
 |num v=>exact zb2 M v
 |pack t c=>exact ztM M t c
 |close b c=>exact ztL M b c
 |hold b c=>exact zvD M b c
 |fill k c=>exact zvw M k c
 |wait b=>exact zij M 1 b
 |zbF c=>exact zij M 2 c
 |zci c=>exact zut M c
 |zbX=>exact zpD M
 |comp sg=>exact zpo M sg
 |enter=>exact znN M
 |jump b=>exact zaS.ok ⟨M.rel,M.half,M.fuel,rfl,M.below,M.vi⟩
 |choose zao=>exact zrg M zao
theorem zlK:∀ (l:List Ins) (m:MSt) (A:Ma) (φ:Nat->Option Nat),MR sl hf m A φ->zaS sl hf (m.zbb sl l) (A.zbb hf sl l)
 |[],m,A,φ,M=>zaS.ok M
 |i::l,m,A,φ,M=>by
  rw[Ma.zbb,MSt.zbb];unfold MSt.zsJ;rw[M.fuel];by_cases h0:A.fuel=0
  ·rw[if_pos h0,if_pos h0];exact zaS.error _ _ _
  ·rw[if_neg h0,if_neg h0];simp only;have M1:MR sl hf { m with o:={ m.o with fuel:=A.fuel-1 } } { A with fuel:=A.fuel-1 } φ:=⟨M.rel,M.half,rfl,M.next,M.below,M.vi⟩;cases hs:Ma.step hf sl { A with fuel:=A.fuel-1 } i with
   |none=>exact zaS.none _ _ _
   |some r=>
    have hr:=zwo M1 i r hs;cases r with
    |error k=>simp only at hr;rw[hr];exact zaS.error _ _ _
    |ok A2=>
     simp only at hr;obtain ⟨m2,φ2,g1,g2⟩:=hr;rw[g1];exact zlK l m2 A2 φ2 g2
theorem zq3(cd:List (Nat × List Ins)):∀ (g:Nat) (m:MSt) (A:Ma) (φ:Nat->Option Nat),MR (cd.map Prod.fst) hf m A φ->zaS (cd.map Prod.fst) hf (m.work cd g) (A.work hf cd g)
 |0,_,_,_,_=>zaS.none _ _ _
 |g+1,m,A,φ,M=>by
  rw[Ma.work,MSt.work,M.next];by_cases h1:A.next=-1
  ·rw[if_pos h1,if_pos h1];exact zaS.ok M
  ·rw[if_neg h1,if_neg h1];by_cases h2:A.next<0
   ·rw[if_pos h2,if_pos h2];exact zaS.none _ _ _
   ·rw[if_neg h2,if_neg h2];cases hc:cd[A.next.toNat]? with
    |none=>exact zaS.none _ _ _
    |some b=>
     obtain ⟨n,is⟩:=b;simp only;have fg:=M.rel.tp;have M1:MR (cd.map Prod.fst) hf { m with o:={ m.o with below:=(m.s.low:Int)+(m.s.half:Int)-(m.s.top:Int)-(n:Int) } } { A with below:=(A.st.length:Int)-n } φ:=⟨M.rel,M.half,M.fuel,M.next,by simp only;omega,M.vi⟩;cases hs:Ma.zbb hf (cd.map Prod.fst) is { A with below:=(A.st.length:Int)-n } with
     |none=>exact zaS.none _ _ _
     |some r=>
      have hr:=zlK is _ _ φ M1 r hs;cases r with
      |error k=>simp only at hr;rw[hr];exact zaS.error _ _ _
      |ok A2=>
       simp only at hr;obtain ⟨m2,φ2,g1,g2⟩:=hr;rw[g1];exact zq3 cd g m2 A2 φ2 g2
theorem zly:∀ (k i:Nat) (m:MSt) (A:Ma) (φ:Nat->Option Nat),MR sl hf m A φ->zaS sl hf (m.zbm i k) (A.zbm hf i k)
 |0,_,m,A,φ,M=>zaS.ok M
 |k+1,i,m,A,φ,M=>by
  rw[MSt.zbm,Ma.zbm];by_cases hi:i<=1000000000
  ·rw[if_pos hi];refine zcS M (fun m1 φ1 M1 hr ho=>?_);obtain ⟨n1,n2⟩:=zmy M1.rel (nd:=.clo i []) (xs:=[]) ⟨hi,by simp⟩ rfl (by simp[sz];omega) (by simp[sz]) (fun v hv=>by cases hv) (fun j f hf=>by simp[zdd]at hf);have hd:hdr (.clo i [])=Hd 2 i 0:=rfl;rw[hd]at n1 n2;rw[n1];simp only;refine zly k (i+1) _ _ (grow φ1 A.h.length m1.s.free) ⟨?_,M1.half,M1.fuel,M1.next,M1.below,zoT M1.vi rfl⟩;refine ⟨n2.low,n2.len,n2.wl,n2.lf,n2.ft,n2.tp,n2.stk,by simp[n2.fl],fun j a ha=>?_,n2.nod,n2.dis,n2.ok,n2.fw⟩;simp only at ha ⊢;rw[zzj]at ha;split at ha
   ·next gT=>
    obtain ⟨x,x1,x2⟩:=n2.fn j a ha;exact ⟨x,by rw[zzc (by have:=n2.fl;omega)];exact x1,x2⟩
   ·next gT=>
    have:=(zyL.1 ha).1;simp at this;have h1:j-A.fns.length=0:=by omega
    rw[h1]at ha;simp at ha;subst ha;have bZ:=n2.fl;have hj:j=m1.fns.length:=by omega
    exact ⟨m1.s.free,by rw[hj];simp,⟨m1.s.free,rfl,.inl (by simp[grow])⟩⟩
  ·rw[if_neg hi];exact zaS.none _ _ _
theorem zux(M:MR sl hf m A φ){nf main:Nat}(h1:m.o.nf=nf)(h2:m.o.main=main):zaS sl hf (m.start sl) (A.start hf sl nf main):=by
 unfold MSt.start Ma.start;rw[h1,zy2];cases hl:A.zbm hf 0 nf with
 |none=>exact zaS.none _ _ _
 |some r=>
  have hr:=zly nf 0 m A φ M r hl;cases r with
  |error k=>simp only at hr;rw[hr];exact zaS.error _ _ _
  |ok A1=>
   simp only at hr;obtain ⟨m1,φ1,g1,g2⟩:=hr;rw[g1];simp only;have ho:m1.o.main=main:=by
    have:∀ (k i:Nat) (m m1:MSt),m.zbm i k=some (.ok m1)->m1.o=m.o:=by
     intro k
     induction k with
     |zero=>intro i m m1 h;simp[MSt.zbm]at h;rw[h]
     |succ k ih=>
      intro i m m1 h;rw[MSt.zbm]at h;unfold aft at h;cases hn:m.zdI 1 with
      |none=>rw[hn]at h;simp at h
      |some q=>
       rw[hn]at h;cases q with
       |error j=>simp at h
       |ok m2=>
        simp only at h;have jo:m2.o=m.o:=by
         unfold MSt.zdI at hn;split at hn
         ·cases hn;rfl
         ·split at hn
          ·cases hn
          ·split at hn
           ·simp at hn
           ·cases hn;rfl
        split at h
        ·cases h
        ·exact (ih _ _ _ h).trans jo
    rw[this nf 0 m m1 g1];exact h2
   refine zcS g2 (fun m2 φ2 M2 hr jb=>?_);have cL:m2.o.main=main:=by rw[jb];exact ho
   rw[cL,if_neg (by omega),zy2];cases dr:A1.fns[main]? with
   |none=>simp only[];exact zaS.none _ _ _
   |some a=>
    obtain ⟨x,x1,x2⟩:=M2.rel.fn main a dr;obtain ⟨p1,p2⟩:=zc5 M2.rel hr (w:=.ad a) x2;simp only[x1,p1];exact znN (m:={ m2 with s:={ m2.s with top:=m2.s.top-1,ws:=m2.s.ws.set (m2.s.top-1) x } }) (A:={ A1 with st:=A1.st++[.ad a] }) ⟨p2,M2.half,M2.fuel,M2.next,M2.below,M2.vi⟩
theorem zwu(M:MR sl hf m A φ){r:Int × Int × Int × Int}(h:A.told=some r):m.told=some r:=by
 unfold Ma.told at h;cases ht:A.st.getLast? with
 |none=>rw[ht]at h;simp at h
 |some w=>
  rw[ht]at h;cases w with
  |mk _ _=>simp at h
  |ad a=>
   simp only at h;cases hn:A.h[a]? with
   |none=>rw[hn]at h;simp at h
   |some nd=>
    rw[hn]at h;cases nd with
    |num v=>
     obtain ⟨p,p1,p2,p3,p4,p5,p6⟩:=M.rel.zdB ht hn rfl;cases h;unfold MSt.told;rw[p2];simp only;rw[if_pos (by simp[hdr]),p6.2.1 v rfl]
    |data t fs=>
     obtain ⟨p,p1,p2,p3,p4,p5,p6⟩:=M.rel.zdB ht hn rfl;have bU:=M.rel.ok a _ hn;cases h;unfold MSt.told;rw[p2];simp only;have hk:hdr (.data t fs)%16=1:=by simp only[hdr];exact zbx (by omega)
     rw[if_neg (by omega),if_pos hk];simp only[hdr];rw[zdE (by omega) bU.2,zeb (by omega) bU.2]
    |clo b fs=>
     obtain ⟨p,p1,p2,p3,p4,p5,p6⟩:=M.rel.zdB ht hn rfl;cases h;unfold MSt.told;rw[p2];simp only;have hk:hdr (.clo b fs)%16=2:=by simp only[hdr];exact zbx (by omega)
     rw[if_neg (by omega),if_neg (by omega)]
    |busy=>simp at h
    |fwd b=>simp at h
theorem zt2{pv:Value}{cd:List (Nat × List Ins)}{nf main words fuel g:Nat}{r:Int × Int × Int × Int}(hw:words<=1000000)(h:zwX (words/2) cd nf main fuel g=some r):runM pv cd nf main words fuel g=some r:=by
 have M0:MR (cd.map Prod.fst) (words/2) (MSt.new pv nf main words fuel) (Ma.new fuel) (fun _=>none):=by
  refine ⟨⟨.inl rfl,by simp only[MSt.new,zzz];omega,by simp only[MSt.new,zzz];exact hw,zyN _,by simp[MSt.new],by simp[MSt.new,Ma.new],by simp[Ma.new],rfl,by simp[Ma.new],by simp,by simp,by simp[Ma.new],by simp[Ma.new]⟩,rfl,rfl,rfl,rfl,by simp[Ma.new]⟩
 unfold zwX at h;unfold runM;cases hs:(Ma.new fuel).start (words/2) (cd.map Prod.fst) nf main with
 |none=>rw[hs]at h;simp at h
 |some q=>
  rw[hs]at h;have hq:=zux M0 (nf:=nf) (main:=main) rfl rfl q hs;cases q with
  |error k=>
   simp only at h hq;cases h;rw[hq]
  |ok A1=>
   simp only at h hq;obtain ⟨m1,φ1,g1,g2⟩:=hq;rw[g1];simp only;cases hw:Ma.work (words/2) cd g A1 with
   |none=>rw[hw]at h;simp at h
   |some q2=>
    rw[hw]at h;have bC:=zq3 cd g m1 A1 φ1 g2 q2 hw;cases q2 with
    |error k=>
     simp only at h bC;cases h;rw[bC]
    |ok A2=>
     simp only at h bC;obtain ⟨m2,φ2,k1,k2⟩:=bC;rw[k1];exact zwu k2 h
end Ab
end Go.Proofs.YtgahgkddaljmkaaGreatDoor
