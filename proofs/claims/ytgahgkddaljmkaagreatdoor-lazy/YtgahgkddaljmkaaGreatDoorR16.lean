/- Gc12 .. LawK2 -/
import Derived.Test.YtgahgkddaljmkaaGreatDoorR15
set_option maxRecDepth 100000
set_option maxHeartbeats 4000000
namespace Go.Proofs.YtgahgkddaljmkaaGreatDoor
open Tryz
namespace Ab
variable {sl:List Nat} {hf:Nat} {m:MSt} {A:Ma} {φ:Nat->Option Nat}
theorem zne{k b:Nat}(hk:k<4)(hb:b<1000000000):waits (Mk k b)=some (k,b):=by
 unfold waits Mk;rw[if_pos (by omega)];congr 2
 ·omega
 ·omega
theorem zsi(M:MR sl hf m A φ){v c j0:Nat}{nv:Nd}(h3:3<=A.st.length)(hv:A.st[A.st.length-1]?=some (.ad v))(_hk:A.st[A.st.length-2]?=some (.mk 0 j0))(hc:A.st[A.st.length-3]?=some (.ad c))(hb:A.h[c]?=some .busy)(ay:A.h[v]?=some nv)(ed:val sl nv):
  ∃ s',m.s.update=some s'/\MR sl hf { m with s:=s' } { A with h:=A.h.set c (.fwd v),st:=zcE A.st 3++[.ad v] } φ:=by
 have AU:=zxZ ed;have AT:v≠c:=fun e=>by subst e;rw[hb]at ay;cases ay;exact ed
 have fg:=M.rel.tp;have gS:=M.rel.hi;have iY:=M.rel.ft;have eE:=M.rel.wl;obtain ⟨w,x,w1,w2,w3⟩:=M.rel.word (d:=0) (by omega);rw[zAl,hv]at w1;cases w1;rw[zzO]at w2;obtain ⟨w,y,y1,y2,y3⟩:=M.rel.word (d:=2) (by omega);rw[show A.st.length-1-2=A.st.length-3 by omega,hc]at y1;cases y1;obtain ⟨pv,rfl,v2,v3,v4,v5⟩:=M.rel.zfo w3 ay AU;obtain ⟨pc,rfl,c2,c3,c4,c5⟩:=M.rel.zfo y3 hb rfl;have hs:=zhd nv;have mT:sz .busy=1:=rfl;rw[mT]at c4;refine ⟨{ m.s with ws:=(m.s.ws.set pc (Hd 4 pv 0)).set (m.s.top+2) pv,top:=m.s.top+2 },?_,?_⟩
 ·unfold Sto.update;rw[w2];simp only;rw[y2];simp only;rw[if_pos ⟨by omega,by omega,by omega,by omega⟩,zy2,zy2]
 ·have mR:∀ (x' b':Nat),A.h[x']?=some (.fwd b')->b'≠c:=fun x' b' hx e=>by
   obtain ⟨n',g1,g2⟩:=M.vi x' b' hx;rw[e,hb]at g1;cases g1;exact g2
  have R1:=M.rel.zxM (ws':=m.s.ws.set pc (Hd 4 pv 0)) (nd':=.fwd v) c2 hb rfl trivial (by simp[sz]) (by simp) (fun j hj=>by rw[zyV,if_neg (by simp only[sz]at hj;omega)])
   (.inl ⟨v,pv,rfl,v2,by rw[zyV,if_pos rfl,if_pos (by omega)]⟩) (fun _=>mR) (fun b' e=>by cases e;exact ⟨AT,nv,ay,AU⟩)
  have dC:∀ (c' b':Nat),A.h[c']?=some (.fwd b')->(A.h.set c (.fwd v))[c']?=some (.fwd b'):=zqC hb rfl;have R2:=R1.zeV (ws':=(m.s.ws.set pc (Hd 4 pv 0)).set (m.s.top+2) pv) (top':=m.s.top+2) (st':=zcE A.st 3++[.ad v]) (by simp) (fun j h1 h2=>by simp only at h1 h2 ⊢;rw[zyV,if_neg (by omega)]) (by simp only;omega) (by simp only[zyT,zy0,zdF];omega) (fun i w hw=>by
   simp only;rw[zzj,zdF]at hw;split at hw
   ·next br=>
    have fY:=zmd hw;obtain ⟨z,z1,z2⟩:=R1.stk i w fY;simp only at z1;exact ⟨z,by rw[zyV,if_neg (by omega)];exact z1,z2⟩
   ·next br=>
    have:=(zyL.1 hw).1;simp at this;have h1:i-(A.st.length-3)=0:=by omega
    rw[h1]at hw;simp at hw;subst hw;refine ⟨pv,by rw[show m.s.low+m.s.half-1-i=m.s.top+2 by omega,zyV,if_pos rfl,if_pos (by rw[zy6];omega)],⟨pv,rfl,.inl v2⟩⟩)
  refine ⟨R2,M.half,M.fuel,M.next,M.below,fun a b oQ=>?_⟩;have aN:=(zyL.1 hb).1;simp only at oQ ⊢;rw[zyV]at oQ;by_cases e:c=a
  ·rw[if_pos e,if_pos aN]at oQ;cases oQ;exact ⟨nv,by rw[zyV,if_neg (fun e=>AT e.symm)];exact ay,ed⟩
  ·rw[if_neg e]at oQ;obtain ⟨n',g1,g2⟩:=M.vi a b oQ;exact ⟨n',by rw[zyV,if_neg (fun e=>mR a b oQ e.symm)];exact g1,g2⟩
theorem zdT:∀ (g:Nat) (m:MSt) (A:Ma) (φ:Nat->Option Nat),MR sl hf m A φ->zaS sl hf (m.za1 sl g) (A.za1 hf sl g)
 |0,_,_,_,_=>zaS.none _ _ _
 |g+1,m,A,φ,M=>by
  have fg:=M.rel.tp;have iY:=M.rel.ft;have uM:=M.rel.lf;have eE:=M.rel.wl;have gS:=M.rel.hi;rw[Ma.za1,MSt.za1];by_cases h1:A.st.length<=1
  ·rw[if_pos h1,if_pos (by omega)];exact zaS.ok ⟨M.rel,M.half,M.fuel,rfl,M.below,M.vi⟩
  ·rw[if_neg h1,if_neg (by omega)];obtain ⟨w,x,w1,w2,w3⟩:=M.rel.word (d:=1) (by omega);rw[show A.st.length-1-1=A.st.length-2 by omega]at w1;rw[w1];cases w with
   |ad a=>exact zaS.none _ _ _
   |mk k b=>
    have hx:x=Mk k b:=w3;simp only;by_cases iC:1000000000<=b
    ·rw[if_pos iC];exact zaS.none _ _ _
    ·rw[if_neg iC,w2,hx];simp only;by_cases dF:k=0
     ·subst dF;rw[if_pos rfl,zne (by omega) (by omega)];simp only;rw[if_pos trivial];cases hv:A.st[A.st.length-1]? with
      |none=>exact zaS.none _ _ _
      |some wv=>
       cases wv with
       |mk _ _=>exact zaS.none _ _ _
       |ad v=>
        simp only;by_cases h3:3<=A.st.length
        ·rw[if_pos h3];cases hc:A.st[A.st.length-3]? with
         |none=>exact zaS.none _ _ _
         |some wc=>
          cases wc with
          |mk _ _=>exact zaS.none _ _ _
          |ad c=>
           simp only;have go:∀ nv,A.h[c]?=some .busy->A.h[v]?=some nv->val sl nv->zaS sl hf (match m.s.update with|none=>none|some s'=>MSt.za1 sl g { m with s:=s' }) (Ma.za1 hf sl g { A with h:=A.h.set c (.fwd v),st:=zcE A.st 3++[.ad v] }):=fun nv hb ay ed=>by
            obtain ⟨s',u1,u2⟩:=zsi M h3 hv w1 hc hb ay ed;rw[u1];exact zdT g _ _ φ u2
           cases iG:A.h[c]? with
           |none=>exact zaS.none _ _ _
           |some nc=>
            cases hvn:A.h[v]? with
            |none=>cases nc <;> exact zaS.none _ _ _
            |some nv=>
             cases nc with
             |busy=>
              cases nv with
              |num z=>exact go _ iG hvn trivial
              |data t fs=>exact go _ iG hvn trivial
              |clo b' fs=>
               simp only;by_cases ed:∃ n,sl[b']?=some n/\fs.length<n
               ·rw[if_pos ed];exact go _ iG hvn ed
               ·rw[if_neg ed];exact zaS.none _ _ _
              |busy=>exact zaS.none _ _ _
              |fwd _=>exact zaS.none _ _ _
             |num _=>exact zaS.none _ _ _
             |data _ _=>exact zaS.none _ _ _
             |clo _ _=>exact zaS.none _ _ _
             |fwd _=>exact zaS.none _ _ _
        ·rw[if_neg h3];exact zaS.none _ _ _
     ·rw[if_neg dF];by_cases cK:k=1
      ·subst cK;rw[if_pos rfl,zne (by omega) (by omega)];simp only;rw[if_neg (by omega),if_pos trivial];cases hv:A.st[A.st.length-1]? with
       |none=>exact zaS.none _ _ _
       |some wv=>
        cases wv with
        |mk _ _=>exact zaS.none _ _ _
        |ad v=>
         obtain ⟨w,y,y1,y2,y3⟩:=M.rel.word (d:=0) (by omega);rw[zAl,hv]at y1;cases y1;rw[zzO]at y2;simp only;rw[y2];simp only;have R2:=M.rel.zeV (ws':=m.s.ws.set (m.s.top+1) y) (top':=m.s.top+1) (st':=zcE A.st 2++[.ad v]) (by simp) (fun j h1 h2=>by rw[zyV,if_neg (by omega)]) (by omega) (by simp only[zyT,zy0,zdF];omega) (fun i w hw=>by
          rw[zzj,zdF]at hw;split at hw
          ·next br=>
           obtain ⟨z,z1,z2⟩:=M.rel.stk i w (zmd hw);exact ⟨z,by rw[zyV,if_neg (by omega)];exact z1,z2⟩
          ·next br=>
           have:=(zyL.1 hw).1;simp at this;have h1:i-(A.st.length-2)=0:=by omega
           rw[h1]at hw;simp at hw;subst hw;exact ⟨y,by rw[show m.s.low+m.s.half-1-i=m.s.top+1 by omega,zyV,if_pos rfl,if_pos (by omega)],y3⟩)
         have dW:Sto.pop { m.s with ws:=m.s.ws.set (m.s.top+1) y } 1=some { m.s with ws:=m.s.ws.set (m.s.top+1) y,top:=m.s.top+1 }:=by
          unfold Sto.pop;rw[if_pos (by simp only;omega)]
         rw[dW];exact zaS.ok (φ:=φ) ⟨R2,M.half,M.fuel,rfl,M.below,M.vi⟩
      ·rw[if_neg cK];by_cases aG:k=2
       ·subst aG;rw[if_pos rfl,zne (by omega) (by omega)];simp only;rw[if_neg (by omega),if_neg (by omega),if_pos trivial];cases ha:A.za5 hf sl b with
        |none=>exact zaS.none _ _ _
        |some r=>
         have hs:=zpc M b ha;cases r with
         |error j=>
          simp only at hs;rw[hs];exact zaS.error _ _ _
         |ok q=>
          simp only at hs;obtain ⟨m',φ',g1,g2⟩:=hs;rw[g1];simp only;by_cases hq:q.1=true
          ·rw[if_pos hq,if_pos hq];exact zaS.ok g2
          ·rw[if_neg hq,if_neg hq];exact zdT g _ _ _ g2
       ·rw[if_neg aG];exact zaS.none _ _ _
theorem zlM{s:Sto}{fc:List Int}{h:List Nd}{st:List Wd}{fns:List Nat}(R:Rel s fc h st fns φ){x:Int}{w:Wd}(h0:0<st.length)(hw:RW φ h x w):Rel { s with ws:=s.ws.set s.top x } fc h (zcE st 1++[w]) fns φ:=by
 have fg:=R.tp;have gS:=R.hi;have iY:=R.ft;have:=R.zeV (ws':=s.ws.set s.top x) (top':=s.top) (st':=zcE st 1++[w]) (by simp) (fun j h1 h2=>by rw[zyV,if_neg (by omega)]) iY (by simp only[zyT,zy0,zdF];omega) (fun i w' fY=>by
  rw[zzj,zdF]at fY;split at fY
  ·next br=>
   obtain ⟨z,z1,z2⟩:=R.stk i w' (zmd fY);exact ⟨z,by rw[zyV,if_neg (by omega)];exact z1,z2⟩
  ·next br=>
   have:=(zyL.1 fY).1;simp at this;have h1:i-(st.length-1)=0:=by omega
   rw[h1]at fY;simp at fY;subst fY;exact ⟨x,by rw[show s.low+s.half-1-i=s.top by omega,zyV,if_pos rfl,if_pos (by omega)],hw⟩)
 exact this
theorem zpr(M:MR sl hf m A φ){a p:Nat}{nd:Nd}(ht:A.st.getLast?=some (.ad a))(hn:A.h[a]?=some nd)(gr:zaV nd=false)(hp:φ a=some p):
  zaS sl hf (m.zcy sl p) (match nd with
   |.busy=>some (.error 5)
   |.num _=>A.za1 hf sl (A.st.length+1)
   |.data _ _=>A.za1 hf sl (A.st.length+1)
   |.clo b fs=>(match sl[b]? with|none=>none|some n=>if n=fs.length then A.zdy hf a b fs else if fs.length<n then A.za1 hf sl (A.st.length+1) else none)
   |_=>none):=by
 have bU:=M.rel.ok a _ hn;obtain ⟨q1,q2,q3⟩:=M.rel.zi2 hp hn gr;obtain ⟨r1,r2⟩:=zde bU;have fg:=M.rel.tp;have hh:m.ztg=A.st.length+1:=by unfold MSt.ztg;omega
 unfold MSt.zcy;rw[q3.head bU rfl];simp only;cases nd with
 |num v=>
  rw[if_neg (by simp[hdr])];unfold Sto.zfJ;rw[q3.1];simp only;rw[if_neg (by omega),if_neg (by simp[hdr])];simp only;rw[if_neg (by omega),hh];exact zdT _ _ _ _ M
 |data t fs=>
  rw[if_neg (by simp only[hdr];rw[zbx (by omega)];omega)];unfold Sto.zfJ;rw[q3.1];simp only;rw[if_neg (by omega),if_neg (by simp only[hdr];rw[zbx (by omega)];omega)];simp only;rw[if_neg (by omega),hh];exact zdT _ _ _ _ M
 |busy=>
  rw[if_pos (by simp only[hdr];exact zbx (by omega))];exact zaS.error _ _ _
 |fwd b=>simp[zaV]at gr
 |clo b fs=>
  simp only;cases hb:sl[b]? with
  |none=>exact zaS.none _ _ _
  |some n=>
   simp only;have mO:m.s.zfJ sl p=some ((n:Int)-fs.length):=by
    unfold Sto.zfJ;rw[q3.1];simp only;rw[if_neg (by omega),if_pos (by simp only[hdr];exact zbx (by omega))];have hw:hdr (.clo b fs)/65536=(b:Int):=by simp only[hdr];exact zdE (by omega) bU.2
    have iG:hdr (.clo b fs)/16%4096=(fs.length:Int):=by simp only[hdr];exact zeb (by omega) bU.2
    rw[hw,zy2,hb,iG]
   rw[if_neg (by simp only[hdr];rw[zbx (by omega)];omega),mO];simp only;by_cases ev:n=fs.length
   ·rw[if_pos (by omega),if_pos ev];exact zsF M ht hn hb ev
   ·rw[if_neg (by omega),if_neg ev];by_cases aj:fs.length<n
    ·rw[if_pos aj,hh];exact zdT _ _ _ _ M
    ·rw[if_neg aj];exact zaS.none _ _ _
theorem znN(M:MR sl hf m A φ):zaS sl hf (m.enter sl) (A.enter hf sl):=by
 unfold Ma.enter;cases ht:A.st.getLast? with
 |none=>exact zaS.none _ _ _
 |some w=>
  cases w with
  |mk _ _=>exact zaS.none _ _ _
  |ad a=>
   obtain ⟨g0,g1⟩:=zgn ht;obtain ⟨w,x,w1,w2,w3⟩:=M.rel.word (d:=0) g0;rw[zAl,g1]at w1;cases w1;rw[zzO]at w2;have fg:=M.rel.tp;have gS:=M.rel.hi;have eE:=M.rel.wl;have sD:(zcE A.st 1++[Wd.ad (can A.h a)]).length=A.st.length:=by simp only[zyT,zy0,zdF];omega
   have tr:(zcE A.st 1++[Wd.ad (can A.h a)]).getLast?=some (.ad (can A.h a)):=by simp
   have key:∃ nd p m',A.h[can A.h a]?=some nd/\zaV nd=false/\φ (can A.h a)=some p/\MR sl hf m' { A with st:=zcE A.st 1++[.ad (can A.h a)] } φ/\m.enter sl=m'.zcy sl p:=by
    obtain ⟨q,rfl,hq⟩:=w3;have plain:∀ (c:Nat) (nd:Nd),φ c=some q->A.h[c]?=some nd->zaV nd=false->can A.h a=c->∃ nd p m',A.h[can A.h a]?=some nd/\zaV nd=false/\φ (can A.h a)=some p/\MR sl hf m' { A with st:=zcE A.st 1++[.ad (can A.h a)] } φ/\m.enter sl=m'.zcy sl p:=fun c nd hc hn gr jk=>by
     obtain ⟨b1,b2,b3⟩:=M.rel.zi2 hc hn gr;have bU:=M.rel.ok c nd hn;have R2:=zlM M.rel (x:=q) (w:=.ad (can A.h a)) g0 ⟨q,rfl,.inl (by rw[jk];exact hc)⟩;rw[zqR w2]at R2;refine ⟨nd,q,m,by rw[jk];exact hn,gr,by rw[jk];exact hc,⟨R2,M.half,M.fuel,M.next,M.below,M.vi⟩,?_⟩;unfold MSt.enter Sto.nodeAt;rw[zzO,w2];simp only;rw[if_neg (by omega),zy2,b3.head bU rfl];simp only[zzP];rw[if_neg (zmn gr).1]
    rcases hq with hq|⟨b,hb,hq⟩
    ·obtain ⟨nd,n1,n2,n3,n4⟩:=M.rel.nod a q hq;rcases n4 with ⟨b,p',rfl,n5,n6⟩|⟨n5,_⟩
     ·obtain ⟨nb,iJ,jZ⟩:=M.rel.fw a b n1;obtain ⟨FJ,c1,c2,c3,_⟩:=M.rel.nod b p' n5;have ak:=M.rel.ft;have hk:Hd 4 p' 0%16=4:=zbx (by omega);have hw:Hd 4 p' 0/65536=(p':Int):=zdE (by omega) (by omega);have jk:can A.h a=b:=zgl n1;have R2:=zlM M.rel (x:=p') (w:=.ad (can A.h a)) g0 ⟨p',rfl,.inl (by rw[jk];exact n5)⟩;refine ⟨nb,p',{ m with s:={ m.s with ws:=m.s.ws.set m.s.top p' } },by rw[jk];exact iJ,jZ,by rw[jk];exact n5,⟨R2,M.half,M.fuel,M.next,M.below,M.vi⟩,?_⟩;have eB:=zhd FJ;unfold MSt.enter Sto.nodeAt Sto.head;rw[zzO,w2];simp only;rw[if_neg (by omega),zy2,n6];simp only;rw[if_neg (by unfold Hd;omega)];simp only[zzP];rw[if_pos hk,if_neg (by omega),hw,zy2]
     ·exact plain a nd hq n1 n5 (zdc n1 n5)
    ·obtain ⟨nb,iJ,jZ⟩:=M.rel.fw a b hb;exact plain b nb hq iJ jZ (zgl hb)
   obtain ⟨nd,p,m',k1,k2,k3,k4,k5⟩:=key;rw[k5];have hs:=zpr k4 tr k1 k2 k3;rw[sD]at hs;simp only;rw[k1];cases nd <;> first|exact hs|simp[zaV]at k2
theorem zwo(M:MR sl hf m A φ)(i:Ins):zaS sl hf (m.step sl i) (A.step hf sl i):=by
 cases i with
 |push k=>exact zoa M k
 |zcW f=>exact zrP M f
 |num v=>exact zb2 M v
 |pack t c=>exact ztM M t c
 |close b c=>exact ztL M b c
 |hold b c=>exact zvD M b c
 |fill k c=>exact zvw M k c
 |wait b=>exact zij M 1 b
 |zbF c=>exact zij M 2 c
 |zci c=>exact zut M c
 |zbX=>exact zpD M
 |comp sg=>exact zpo M sg
 |enter=>exact znN M
 |jump b=>exact zaS.ok ⟨M.rel,M.half,M.fuel,rfl,M.below,M.vi⟩
 |choose zao=>exact zrg M zao
theorem zlK:∀ (l:List Ins) (m:MSt) (A:Ma) (φ:Nat->Option Nat),MR sl hf m A φ->zaS sl hf (m.zbb sl l) (A.zbb hf sl l)
 |[],m,A,φ,M=>zaS.ok M
 |i::l,m,A,φ,M=>by
  rw[Ma.zbb,MSt.zbb];unfold MSt.zsJ;rw[M.fuel];by_cases h0:A.fuel=0
  ·rw[if_pos h0,if_pos h0];exact zaS.error _ _ _
  ·rw[if_neg h0,if_neg h0];simp only;have M1:MR sl hf { m with o:={ m.o with fuel:=A.fuel-1 } } { A with fuel:=A.fuel-1 } φ:=⟨M.rel,M.half,rfl,M.next,M.below,M.vi⟩;cases hs:Ma.step hf sl { A with fuel:=A.fuel-1 } i with
   |none=>exact zaS.none _ _ _
   |some r=>
    have hr:=zwo M1 i r hs;cases r with
    |error k=>simp only at hr;rw[hr];exact zaS.error _ _ _
    |ok A2=>
     simp only at hr;obtain ⟨m2,φ2,g1,g2⟩:=hr;rw[g1];exact zlK l m2 A2 φ2 g2
theorem zq3(cd:List (Nat × List Ins)):∀ (g:Nat) (m:MSt) (A:Ma) (φ:Nat->Option Nat),MR (cd.map Prod.fst) hf m A φ->zaS (cd.map Prod.fst) hf (m.work cd g) (A.work hf cd g)
 |0,_,_,_,_=>zaS.none _ _ _
 |g+1,m,A,φ,M=>by
  rw[Ma.work,MSt.work,M.next];by_cases h1:A.next=-1
  ·rw[if_pos h1,if_pos h1];exact zaS.ok M
  ·rw[if_neg h1,if_neg h1];by_cases h2:A.next<0
   ·rw[if_pos h2,if_pos h2];exact zaS.none _ _ _
   ·rw[if_neg h2,if_neg h2];cases hc:cd[A.next.toNat]? with
    |none=>exact zaS.none _ _ _
    |some b=>
     obtain ⟨n,is⟩:=b;simp only;have fg:=M.rel.tp;have M1:MR (cd.map Prod.fst) hf { m with o:={ m.o with below:=(m.s.low:Int)+(m.s.half:Int)-(m.s.top:Int)-(n:Int) } } { A with below:=(A.st.length:Int)-n } φ:=⟨M.rel,M.half,M.fuel,M.next,by simp only;omega,M.vi⟩;cases hs:Ma.zbb hf (cd.map Prod.fst) is { A with below:=(A.st.length:Int)-n } with
     |none=>exact zaS.none _ _ _
     |some r=>
      have hr:=zlK is _ _ φ M1 r hs;cases r with
      |error k=>simp only at hr;rw[hr];exact zaS.error _ _ _
      |ok A2=>
       simp only at hr;obtain ⟨m2,φ2,g1,g2⟩:=hr;rw[g1];exact zq3 cd g m2 A2 φ2 g2
theorem zly:∀ (k i:Nat) (m:MSt) (A:Ma) (φ:Nat->Option Nat),MR sl hf m A φ->zaS sl hf (m.zbm i k) (A.zbm hf i k)
 |0,_,m,A,φ,M=>zaS.ok M
 |k+1,i,m,A,φ,M=>by
  rw[MSt.zbm,Ma.zbm];by_cases hi:i<=1000000000
  ·rw[if_pos hi];refine zcS M (fun m1 φ1 M1 hr ho=>?_);obtain ⟨n1,n2⟩:=zmy M1.rel (nd:=.clo i []) (xs:=[]) ⟨hi,by simp⟩ rfl (by simp[sz];omega) (by simp[sz]) (fun v hv=>by cases hv) (fun j f hf=>by simp[zdd]at hf);have hd:hdr (.clo i [])=Hd 2 i 0:=rfl;rw[hd]at n1 n2;rw[n1];simp only;refine zly k (i+1) _ _ (grow φ1 A.h.length m1.s.free) ⟨?_,M1.half,M1.fuel,M1.next,M1.below,zoT M1.vi rfl⟩;refine ⟨n2.low,n2.len,n2.wl,n2.lf,n2.ft,n2.tp,n2.stk,by simp[n2.fl],fun j a ha=>?_,n2.nod,n2.dis,n2.ok,n2.fw⟩;simp only at ha ⊢;rw[zzj]at ha;split at ha
   ·next gT=>
    obtain ⟨x,x1,x2⟩:=n2.fn j a ha;exact ⟨x,by rw[zzc (by have:=n2.fl;omega)];exact x1,x2⟩
   ·next gT=>
    have:=(zyL.1 ha).1;simp at this;have h1:j-A.fns.length=0:=by omega
    rw[h1]at ha;simp at ha;subst ha;have bZ:=n2.fl;have hj:j=m1.fns.length:=by omega
    exact ⟨m1.s.free,by rw[hj];simp,⟨m1.s.free,rfl,.inl (by simp[grow])⟩⟩
  ·rw[if_neg hi];exact zaS.none _ _ _
theorem zux(M:MR sl hf m A φ){nf main:Nat}(h1:m.o.nf=nf)(h2:m.o.main=main):zaS sl hf (m.start sl) (A.start hf sl nf main):=by
 unfold MSt.start Ma.start;rw[h1,zy2];cases hl:A.zbm hf 0 nf with
 |none=>exact zaS.none _ _ _
 |some r=>
  have hr:=zly nf 0 m A φ M r hl;cases r with
  |error k=>simp only at hr;rw[hr];exact zaS.error _ _ _
  |ok A1=>
   simp only at hr;obtain ⟨m1,φ1,g1,g2⟩:=hr;rw[g1];simp only;have ho:m1.o.main=main:=by
    have:∀ (k i:Nat) (m m1:MSt),m.zbm i k=some (.ok m1)->m1.o=m.o:=by
     intro k
     induction k with
     |zero=>intro i m m1 h;simp[MSt.zbm]at h;rw[h]
     |succ k ih=>
      intro i m m1 h;rw[MSt.zbm]at h;unfold aft at h;cases hn:m.zdI 1 with
      |none=>rw[hn]at h;simp at h
      |some q=>
       rw[hn]at h;cases q with
       |error j=>simp at h
       |ok m2=>
        simp only at h;have jo:m2.o=m.o:=by
         unfold MSt.zdI at hn;split at hn
         ·cases hn;rfl
         ·split at hn
          ·cases hn
          ·split at hn
           ·simp at hn
           ·cases hn;rfl
        split at h
        ·cases h
        ·exact (ih _ _ _ h).trans jo
    rw[this nf 0 m m1 g1];exact h2
   refine zcS g2 (fun m2 φ2 M2 hr jb=>?_);have cL:m2.o.main=main:=by rw[jb];exact ho
   rw[cL,if_neg (by omega),zy2];cases dr:A1.fns[main]? with
   |none=>simp only[];exact zaS.none _ _ _
   |some a=>
    obtain ⟨x,x1,x2⟩:=M2.rel.fn main a dr;obtain ⟨p1,p2⟩:=zc5 M2.rel hr (w:=.ad a) x2;simp only[x1,p1];exact znN (m:={ m2 with s:={ m2.s with top:=m2.s.top-1,ws:=m2.s.ws.set (m2.s.top-1) x } }) (A:={ A1 with st:=A1.st++[.ad a] }) ⟨p2,M2.half,M2.fuel,M2.next,M2.below,M2.vi⟩
theorem zwu(M:MR sl hf m A φ){r:Int × Int × Int × Int}(h:A.told=some r):m.told=some r:=by
 unfold Ma.told at h;cases ht:A.st.getLast? with
 |none=>rw[ht]at h;simp at h
 |some w=>
  rw[ht]at h;cases w with
  |mk _ _=>simp at h
  |ad a=>
   simp only at h;cases hn:A.h[a]? with
   |none=>rw[hn]at h;simp at h
   |some nd=>
    rw[hn]at h;cases nd with
    |num v=>
     obtain ⟨p,p1,p2,p3,p4,p5,p6⟩:=M.rel.zdB ht hn rfl;cases h;unfold MSt.told;rw[p2];simp only;rw[if_pos (by simp[hdr]),p6.2.1 v rfl]
    |data t fs=>
     obtain ⟨p,p1,p2,p3,p4,p5,p6⟩:=M.rel.zdB ht hn rfl;have bU:=M.rel.ok a _ hn;cases h;unfold MSt.told;rw[p2];simp only;have hk:hdr (.data t fs)%16=1:=by simp only[hdr];exact zbx (by omega)
     rw[if_neg (by omega),if_pos hk];simp only[hdr];rw[zdE (by omega) bU.2,zeb (by omega) bU.2]
    |clo b fs=>
     obtain ⟨p,p1,p2,p3,p4,p5,p6⟩:=M.rel.zdB ht hn rfl;cases h;unfold MSt.told;rw[p2];simp only;have hk:hdr (.clo b fs)%16=2:=by simp only[hdr];exact zbx (by omega)
     rw[if_neg (by omega),if_neg (by omega)]
    |busy=>simp at h
    |fwd b=>simp at h
theorem zt2{pv:Value}{cd:List (Nat × List Ins)}{nf main words fuel g:Nat}{r:Int × Int × Int × Int}(hw:words<=1000000)(h:zwX (words/2) cd nf main fuel g=some r):runM pv cd nf main words fuel g=some r:=by
 have M0:MR (cd.map Prod.fst) (words/2) (MSt.new pv nf main words fuel) (Ma.new fuel) (fun _=>none):=by
  refine ⟨⟨.inl rfl,by simp only[MSt.new,zzz];omega,by simp only[MSt.new,zzz];exact hw,zyN _,by simp[MSt.new],by simp[MSt.new,Ma.new],by simp[Ma.new],rfl,by simp[Ma.new],by simp,by simp,by simp[Ma.new],by simp[Ma.new]⟩,rfl,rfl,rfl,rfl,by simp[Ma.new]⟩
 unfold zwX at h;unfold runM;cases hs:(Ma.new fuel).start (words/2) (cd.map Prod.fst) nf main with
 |none=>rw[hs]at h;simp at h
 |some q=>
  rw[hs]at h;have hq:=zux M0 (nf:=nf) (main:=main) rfl rfl q hs;cases q with
  |error k=>
   simp only at h hq;cases h;rw[hq]
  |ok A1=>
   simp only at h hq;obtain ⟨m1,φ1,g1,g2⟩:=hq;rw[g1];simp only;cases hw:Ma.work (words/2) cd g A1 with
   |none=>rw[hw]at h;simp at h
   |some q2=>
    rw[hw]at h;have bC:=zq3 cd g m1 A1 φ1 g2 q2 hw;cases q2 with
    |error k=>
     simp only at h bC;cases h;rw[bC]
    |ok A2=>
     simp only at h bC;obtain ⟨m2,φ2,k1,k2⟩:=bC;rw[k1];exact zwu k2 h
end Ab
end Go.Proofs.YtgahgkddaljmkaaGreatDoor
namespace Go.Proofs.YtgahgkddaljmkaaGreatDoor
open Tryz
open Go.RowKit
namespace Th
theorem zoX{wr tT:Ex->List (List UInt8)->List Nat}{P:Ex->Nat->Nat->Prop}{ar:List (List UInt8)}:∀ (l:List Tok) (es:List Ex) (lo hi:Nat) (seen:List (List UInt8)),zbd P lo hi l es->(∀ e∈es,∀ lo hi ar,P e lo hi->wr e ar=tT e ar)->zbq wr ar seen l es=zbq tT ar seen l es
 |[],[],_,_,_,_,_=>rfl
 |[],_::_,_,_,_,h,_=>h.elim
 |_::_,[],_,_,_,h,_=>h.elim
 |t::l,e::es,lo,hi,seen,⟨_,m,h1,h2⟩,hw=>by
  rw[zbq,zbq,hw e (by simp) _ _ ar h1,zoX l es m hi _ h2 (fun x hx=>hw x (by simp[hx]))]
theorem zqZ{wr tT:Ex->List (List UInt8)->List Nat}{P:Ex->Nat->Nat->Prop}{ar:List (List UInt8)}:∀ (l:List (Nat × List Tok)) (es:List Ex) (lo hi:Nat),zcb P lo hi l es->(∀ e∈es,∀ lo hi ar,P e lo hi->wr e ar=tT e ar)->zeG wr ar l es=zeG tT ar l es
 |[],[],_,_,_,_=>rfl
 |[],_::_,_,_,h,_=>h.elim
 |_::_,[],_,_,h,_=>h.elim
 |t::l,e::es,lo,hi,⟨m1,m2,_,h1,h2⟩,hw=>by
  rw[zeG,zeG,hw e (by simp) _ _ _ h1,zqZ l es m2 hi h2 (fun x hx=>hw x (by simp[hx]))]
theorem zo3:∀ (N K:Nat) (e:Ex) (lo hi:Nat) (ar:List (List UInt8)),In N e lo hi->Cp.Dp K e->zar N e ar=zar K e ar
 |0,_,_,_,_,_,h,_=>h.elim
 |_+1,0,_,_,_,_,_,h=>h.elim
 |N+1,K+1,e,lo,hi,ar,h,hd=>by
  have ih:=fun (x:Ex) (hx:x∈e.kids) (lo hi:Nat) (ar:List (List UInt8)) (eX:In N x lo hi)=>zo3 N K x lo hi ar eX (hd.2 x hx)
  rcases h.2 with hk|⟨hk,_⟩|⟨hk,b,m',k1,_,k2⟩|⟨hk,e1,e2,m',k1,k2,k3⟩|⟨hk,b,parts,m',k1,k2,k3⟩|⟨hk,b,ag,m',k1,k2,k3⟩
  ·rw[znh hk,znh hk]
  ·rw[zuX hk,zuX hk]
  ·rw[zuV hk k1,zuV hk k1,ih b (by simp[k1]) _ _ _ k2]
  ·rw[zq4 hk k1,zq4 hk k1,ih e1 (by simp[k1]) _ _ _ k2,ih e2 (by simp[k1]) _ _ _ k3]
  ·rw[zuW hk k1,zuW hk k1,ih b (by simp[k1]) _ _ _ k3,zoX _ _ _ _ _ k2 (fun x hx lo hi ar hP=>ih x (by simp[k1,hx]) lo hi ar hP)]
  ·rw[zqa hk k1,zqa hk k1,ih b (by simp[k1]) _ _ _ k2,zqZ _ _ _ _ k3 (fun x hx lo hi ar hP=>ih x (by simp[k1,hx]) lo hi ar hP)]
theorem zoZ{N K:Nat}{all:List (List UInt8)}:∀ (l:List zbr) (lo hi:Nat) (seen:List (List UInt8)),zbM N lo hi l->(∀ f∈l,Cp.Dp K f.e)->zbL N all seen l=zbL K all seen l
 |[],_,_,_,_,_=>rfl
 |x::l,lo,hi,seen,⟨_,m1,m2,_,h1,h2⟩,hd=>by
  rw[zbL,zbL,zo3 N K x.e _ _ _ h1 (hd x (by simp)),zoZ l _ _ _ h2 (fun f hf=>hd f (by simp[hf]))]
end Th
def zmt (s:ByteArray):Option (List Th.zbr × Th.St):=Th.zcn (Th.zdJ 1000) 1000 [] ⟨zay s,none⟩
theorem zjz(s:ByteArray)(hs:s.size<=600):∃ q N,zmt s=some q/\Plain s q N:=by
 have hr:Th.zcx 0 (s.size+1) (zay s):=by
  have:=Th.zhu (s.size+1) s.data.toList 0;rw[zAe,zzG]at this;exact this
 have hl:=hr.len;obtain ⟨q,h1,h2⟩:=Th.zjA (Th.zmC 1000) 1000 [] ⟨zay s,none⟩ ⟨zay s,none⟩ ⟨Th.Step.refl _,fun lo M hr _=>⟨0,lo,zyN _,hr⟩⟩ (by show (zay s).length+1<1000;omega) (by show (zay s).length+1+1<1000;omega);by_cases hb:q.2.bad=none
 ·obtain ⟨N,m,i1,i2⟩:=h2.inn 0 (s.size+1) hr hb;have:=i2.len;exact ⟨q,N,h1,zev s hs,Th.zm8 _ _ _,⟨1000,1000,by omega,by omega,h1⟩,fun _=>⟨0,m,i1,by omega⟩⟩
 ·exact ⟨q,0,h1,zev s hs,Th.zm8 _ _ _,⟨1000,1000,by omega,by omega,h1⟩,fun h=>absurd h hb⟩
variable {N:Nat}
theorem zvZ{s:ByteArray}{q:List Th.zbr × Th.St}(hs:s.size<=600)(hp:Plain s q N)(hb:q.2.bad=none):∀ f∈q.1,Cp.Dp 1300 f.e:=by
 obtain ⟨n,k,_,_,hq⟩:=hp.lines;have hl:=Th.zfE (s.size+1) s.data.toList 0;have hz:s.data.toList.length=s.size:=by rw[zAe];rfl
 rw[hz]at hl;have aj:(zay s).length<=s.size+1:=hl;obtain ⟨m,w1,w2⟩:=Th.zgp k [] _ ⟨zay s,none⟩ q hq (zqw hp.zct) (fun _=>⟨0,by simp,0,by simp,by simp⟩) hb;simp only at w2;have dj:∀ f∈q.1,Cp.wt m f.e<=1300:=fun f hf=>by have:=Th.zhY (fun f=>Cp.wt m f.e+f.params.length+1) hf;omega
 exact fun f hf=>(Th.zxi (w1 f hf).1).le (dj f hf)
theorem zsu{s:ByteArray}{q:List Th.zbr × Th.St}(hs:s.size<=600)(hp:Plain s q N):answer s.size q N=answer s.size q 1300:=by
 unfold answer;cases hb:q.2.bad with
 |some p=>rfl
 |none=>
  obtain ⟨lo,hi,hin,_⟩:=hp.within hb;rw[Th.zoZ q.1 lo hi [] hin (zvZ hs hp hb)]
def zdw (s:ByteArray) (heap fuel:Int) (r:Ab.zsp) (c:Int):Prop:=∀ w:World,
 Calls prog 25 #[.string s,.int .i64 heap,.int .i64 fuel] w fun e w'=>e=.returned (.tuple #[ziu r.1 r.2.1 r.2.2.1 r.2.2.2,.int .i64 c])/\Fr (fun _=>False) w w'
theorem zqm(x:Int)(m:Nat):zb9 x m<=m:=by unfold zb9;omega
end Go.Proofs.YtgahgkddaljmkaaGreatDoor
namespace Go.Proofs.YtgahgkddaljmkaaGreatDoor
open Tryz
open Go.RowKit
attribute [local go_sem ↓] Go.wp_at_zero Go.wp_at_succ
def zmD (c n:Int):Int:=(if c<0 then -(c+1) else c)%n
theorem zfA{c n:Int}(hn:0<n):0<=zmD c n/\zmD c n<n:=⟨Int.emod_nonneg _ (by omega),Int.emod_lt_of_pos _ hn⟩
theorem zfB{c n:Int}(h1:-9223372036854775808<=c)(h2:c<=9223372036854775807)(hn:0<n)(eY:n<=9223372036854775807)(w:World):
  Calls prog 23 #[.int .i64 c,.int .i64 n] w fun e w'=>e=.returned (.int .i64 (zmD c n))/\w'=w:=by
 by_cases hc:c<0
 ·go_enter func23,ntmps23
  go_wp2_with fail
  go_ret
  refine ⟨?_,rfl⟩;unfold zmD;rw[if_pos hc,<-Int.neg_tmod,Int.tmod_eq_emod_of_nonneg (by omega)];rfl
 ·go_enter func23,ntmps23
  go_wp2_with fail
  go_ret
  refine ⟨?_,rfl⟩;unfold zmD;rw[if_neg (by omega)];rfl
theorem zrQ(r:Ab.zsp)(w:World):
  Calls prog 26 #[ziu r.1 r.2.1 r.2.2.1 r.2.2.2] w fun e w'=>e=.returned (.bool (decide (r=(4,0,0,0)\/r=(5,0,0,0))))/\Fr (fun _=>False) w w':=by
 obtain ⟨k,n,t,a⟩:=r;unfold ziu;go_enter func26,ntmps26
 go_wp2_with fail
 all_goals
  go_ret
  refine ⟨?_,(Fr.refl _ _).alloc _⟩;simp[*]
end Go.Proofs.YtgahgkddaljmkaaGreatDoor
