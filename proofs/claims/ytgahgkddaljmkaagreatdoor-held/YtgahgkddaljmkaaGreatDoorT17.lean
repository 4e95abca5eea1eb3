/- Gc12 .. LawK2 -/
import Derived.Test.YtgahgkddaljmkaaGreatDoorT16
set_option maxRecDepth 100000
set_option maxHeartbeats 4000000
namespace Go.Proofs.YtgahgkddaljmkaaGreatDoor
open Tryz
namespace Ab
variable {sl:List Nat} {hf:Nat} {m:MSt} {A:Ma} {φ:Nat->Option Nat}
theorem zne{k b:Nat}(hk:k<4)(hb:b<1000000000):waits (Mk k b)=some (k,b):=by
 unfold waits Mk;rw[if_pos (by omega)];congr 2
 ·omega
 ·omega
theorem zsi(M:MR sl hf m A φ){v c j0:Nat}{nv:Nd}(h3:3<=A.st.length)(hv:A.st[A.st.length-1]?=some (.ad v))(_hk:A.st[A.st.length-2]?=some (.mk 0 j0))(hc:A.st[A.st.length-3]?=some (.ad c))(hb:A.h[c]?=some .busy)(ay:A.h[v]?=some nv)(ed:val sl nv):
  ∃ s',m.s.update=some s'/\MR sl hf { m with s:=s' } { A with h:=A.h.set c (.fwd v),st:=zcE A.st 3++[.ad v] } φ:=by
 have AU:=zxZ ed;have AT:v≠c:=fun e=>by subst e;rw[hb]at ay;cases ay;exact ed
 have fg:=M.rel.tp;have gS:=M.rel.hi;have iY:=M.rel.ft;have eE:=M.rel.wl;obtain ⟨w,x,w1,w2,w3⟩:=M.rel.word (d:=0) (by omega);rw[zAl,hv]at w1;cases w1;rw[zzO]at w2;obtain ⟨w,y,y1,y2,y3⟩:=M.rel.word (d:=2) (by omega);rw[show A.st.length-1-2=A.st.length-3 by omega,hc]at y1;cases y1;obtain ⟨pv,rfl,v2,v3,v4,v5⟩:=M.rel.zfo w3 ay AU;obtain ⟨pc,rfl,c2,c3,c4,c5⟩:=M.rel.zfo y3 hb rfl;have hs:=zhd nv;have mT:sz .busy=1:=rfl;rw[mT]at c4;refine ⟨{ m.s with ws:=(m.s.ws.set pc (Hd 4 pv 0)).set (m.s.top+2) pv,top:=m.s.top+2 },?_,?_⟩
 ·unfold Sto.update;rw[w2];simp only;rw[y2];simp only;rw[if_pos ⟨by omega,by omega,by omega,by omega⟩,zy2,zy2]
 ·have mR:∀ (x' b':Nat),A.h[x']?=some (.fwd b')->b'≠c:=fun x' b' hx e=>by
   obtain ⟨n',g1,g2⟩:=M.vi x' b' hx;rw[e,hb]at g1;cases g1;exact g2
  have R1:=M.rel.zxM (ws':=m.s.ws.set pc (Hd 4 pv 0)) (nd':=.fwd v) c2 hb rfl trivial (by simp[sz]) (by simp) (fun j hj=>by rw[zyV,if_neg (by simp only[sz]at hj;omega)])
   (.inl ⟨v,pv,rfl,v2,by rw[zyV,if_pos rfl,if_pos (by omega)]⟩) (fun _=>mR) (fun b' e=>by cases e;exact ⟨AT,nv,ay,AU⟩)
  have dC:∀ (c' b':Nat),A.h[c']?=some (.fwd b')->(A.h.set c (.fwd v))[c']?=some (.fwd b'):=zqC hb rfl;have R2:=R1.zeV (ws':=(m.s.ws.set pc (Hd 4 pv 0)).set (m.s.top+2) pv) (top':=m.s.top+2) (st':=zcE A.st 3++[.ad v]) (by simp) (fun j h1 h2=>by simp only at h1 h2 ⊢;rw[zyV,if_neg (by omega)]) (by simp only;omega) (by simp only[zyT,zy0,zdF];omega) (fun i w hw=>by
   simp only;rw[zzj,zdF]at hw;split at hw
   ·next br=>
    have fY:=zmd hw;obtain ⟨z,z1,z2⟩:=R1.stk i w fY;simp only at z1;exact ⟨z,by rw[zyV,if_neg (by omega)];exact z1,z2⟩
   ·next br=>
    have:=(zyL.1 hw).1;simp at this;have h1:i-(A.st.length-3)=0:=by omega
    rw[h1]at hw;simp at hw;subst hw;refine ⟨pv,by rw[show m.s.low+m.s.half-1-i=m.s.top+2 by omega,zyV,if_pos rfl,if_pos (by rw[zy6];omega)],⟨pv,rfl,.inl v2⟩⟩)
  refine ⟨R2,M.half,M.fuel,M.next,M.below,fun a b oQ=>?_⟩;have aN:=(zyL.1 hb).1;simp only at oQ ⊢;rw[zyV]at oQ;by_cases e:c=a
  ·rw[if_pos e,if_pos aN]at oQ;cases oQ;exact ⟨nv,by rw[zyV,if_neg (fun e=>AT e.symm)];exact ay,ed⟩
  ·rw[if_neg e]at oQ;obtain ⟨n',g1,g2⟩:=M.vi a b oQ;exact ⟨n',by rw[zyV,if_neg (fun e=>mR a b oQ e.symm)];exact g1,g2⟩
theorem zdT:∀ (g:Nat) (m:MSt) (A:Ma) (φ:Nat->Option Nat),MR sl hf m A φ->zaS sl hf (m.za1 sl g) (A.za1 hf sl g)
 |0,_,_,_,_=>zaS.none _ _ _
 |g+1,m,A,φ,M=>by
  have fg:=M.rel.tp;have iY:=M.rel.ft;have uM:=M.rel.lf;have eE:=M.rel.wl;have gS:=M.rel.hi;rw[Ma.za1,MSt.za1];by_cases h1:A.st.length<=1
  ·rw[if_pos h1,if_pos (by omega)];exact zaS.ok ⟨M.rel,M.half,M.fuel,rfl,M.below,M.vi⟩
  ·rw[if_neg h1,if_neg (by omega)];obtain ⟨w,x,w1,w2,w3⟩:=M.rel.word (d:=1) (by omega);rw[show A.st.length-1-1=A.st.length-2 by omega]at w1;rw[w1];cases w with
   |ad a=>exact zaS.none _ _ _
   |mk k b=>
    have hx:x=Mk k b:=w3;simp only;by_cases iC:1000000000<=b
    ·rw[if_pos iC];exact zaS.none _ _ _
    ·rw[if_neg iC,w2,hx];simp only;by_cases dF:k=0
     ·subst dF;rw[if_pos rfl,zne (by omega) (by omega)];simp only;rw[if_pos trivial];cases hv:A.st[A.st.length-1]? with
      |none=>exact zaS.none _ _ _
      |some wv=>
       cases wv with
       |mk _ _=>exact zaS.none _ _ _
       |ad v=>
        simp only;by_cases h3:3<=A.st.length
        ·rw[if_pos h3];cases hc:A.st[A.st.length-3]? with
         |none=>exact zaS.none _ _ _
         |some wc=>
          cases wc with
          |mk _ _=>exact zaS.none _ _ _
          |ad c=>
           simp only;have go:∀ nv,A.h[c]?=some .busy->A.h[v]?=some nv->val sl nv->zaS sl hf (match m.s.update with|none=>none|some s'=>MSt.za1 sl g { m with s:=s' }) (Ma.za1 hf sl g { A with h:=A.h.set c (.fwd v),st:=zcE A.st 3++[.ad v] }):=fun nv hb ay ed=>by
            obtain ⟨s',u1,u2⟩:=zsi M h3 hv w1 hc hb ay ed;rw[u1];exact zdT g _ _ φ u2
           cases iG:A.h[c]? with
           |none=>exact zaS.none _ _ _
           |some nc=>
            cases hvn:A.h[v]? with
            |none=>cases nc <;> exact zaS.none _ _ _
            |some nv=>
             cases nc with
             |busy=>
              cases nv with
              |num z=>exact go _ iG hvn trivial
              |data t fs=>exact go _ iG hvn trivial
              |clo b' fs=>
               simp only;by_cases ed:∃ n,sl[b']?=some n/\fs.length<n
               ·rw[if_pos ed];exact go _ iG hvn ed
               ·rw[if_neg ed];exact zaS.none _ _ _
              |busy=>exact zaS.none _ _ _
              |fwd _=>exact zaS.none _ _ _
             |num _=>exact zaS.none _ _ _
             |data _ _=>exact zaS.none _ _ _
             |clo _ _=>exact zaS.none _ _ _
             |fwd _=>exact zaS.none _ _ _
        ·rw[if_neg h3];exact zaS.none _ _ _
     ·rw[if_neg dF];by_cases cK:k=1
      ·subst cK;rw[if_pos rfl,zne (by omega) (by omega)];simp only;rw[if_neg (by omega),if_pos trivial];cases hv:A.st[A.st.length-1]? with
       |none=>exact zaS.none _ _ _
       |some wv=>
        cases wv with
        |mk _ _=>exact zaS.none _ _ _
        |ad v=>
         obtain ⟨w,y,y1,y2,y3⟩:=M.rel.word (d:=0) (by omega);rw[zAl,hv]at y1;cases y1;rw[zzO]at y2;simp only;rw[y2];simp only;have R2:=M.rel.zeV (ws':=m.s.ws.set (m.s.top+1) y) (top':=m.s.top+1) (st':=zcE A.st 2++[.ad v]) (by simp) (fun j h1 h2=>by rw[zyV,if_neg (by omega)]) (by omega) (by simp only[zyT,zy0,zdF];omega) (fun i w hw=>by
          rw[zzj,zdF]at hw;split at hw
          ·next br=>
           obtain ⟨z,z1,z2⟩:=M.rel.stk i w (zmd hw);exact ⟨z,by rw[zyV,if_neg (by omega)];exact z1,z2⟩
          ·next br=>
           have:=(zyL.1 hw).1;simp at this;have h1:i-(A.st.length-2)=0:=by omega
           rw[h1]at hw;simp at hw;subst hw;exact ⟨y,by rw[show m.s.low+m.s.half-1-i=m.s.top+1 by omega,zyV,if_pos rfl,if_pos (by omega)],y3⟩)
         have dW:Sto.pop { m.s with ws:=m.s.ws.set (m.s.top+1) y } 1=some { m.s with ws:=m.s.ws.set (m.s.top+1) y,top:=m.s.top+1 }:=by
          unfold Sto.pop;rw[if_pos (by simp only;omega)]
         rw[dW];exact zaS.ok (φ:=φ) ⟨R2,M.half,M.fuel,rfl,M.below,M.vi⟩
      ·rw[if_neg cK];by_cases aG:k=2
       ·subst aG;rw[if_pos rfl,zne (by omega) (by omega)];simp only;rw[if_neg (by omega),if_neg (by omega),if_pos trivial];cases ha:A.za5 hf sl b with
        |none=>exact zaS.none _ _ _
        |some r=>
         have hs:=zpc M b ha;cases r with
         |error j=>
          simp only at hs;rw[hs];exact zaS.error _ _ _
         |ok q=>
          simp only at hs;obtain ⟨m',φ',g1,g2⟩:=hs;rw[g1];simp only;by_cases hq:q.1=true
          ·rw[if_pos hq,if_pos hq];exact zaS.ok g2
          ·rw[if_neg hq,if_neg hq];exact zdT g _ _ _ g2
       ·rw[if_neg aG];exact zaS.none _ _ _
theorem zlM{s:Sto}{fc:List Int}{h:List Nd}{st:List Wd}{fns:List Nat}(R:Rel s fc h st fns φ){x:Int}{w:Wd}(h0:0<st.length)(hw:RW φ h x w):Rel { s with ws:=s.ws.set s.top x } fc h (zcE st 1++[w]) fns φ:=by
 have fg:=R.tp;have gS:=R.hi;have iY:=R.ft;have:=R.zeV (ws':=s.ws.set s.top x) (top':=s.top) (st':=zcE st 1++[w]) (by simp) (fun j h1 h2=>by rw[zyV,if_neg (by omega)]) iY (by simp only[zyT,zy0,zdF];omega) (fun i w' fY=>by
  rw[zzj,zdF]at fY;split at fY
  ·next br=>
   obtain ⟨z,z1,z2⟩:=R.stk i w' (zmd fY);exact ⟨z,by rw[zyV,if_neg (by omega)];exact z1,z2⟩
  ·next br=>
   have:=(zyL.1 fY).1;simp at this;have h1:i-(st.length-1)=0:=by omega
   rw[h1]at fY;simp at fY;subst fY;exact ⟨x,by rw[show s.low+s.half-1-i=s.top by omega,zyV,if_pos rfl,if_pos (by omega)],hw⟩)
 exact this
theorem zpr(M:MR sl hf m A φ){a p:Nat}{nd:Nd}(ht:A.st.getLast?=some (.ad a))(hn:A.h[a]?=some nd)(gr:zaV nd=false)(hp:φ a=some p):
  zaS sl hf (m.zcy sl p) (match nd with
   |.busy=>some (.error 5)
   |.num _=>A.za1 hf sl (A.st.length+1)
   |.data _ _=>A.za1 hf sl (A.st.length+1)
   |.clo b fs=>(match sl[b]? with|none=>none|some n=>if n=fs.length then A.zdy hf a b fs else if fs.length<n then A.za1 hf sl (A.st.length+1) else none)
   |_=>none):=by
 have bU:=M.rel.ok a _ hn;obtain ⟨q1,q2,q3⟩:=M.rel.zi2 hp hn gr;obtain ⟨r1,r2⟩:=zde bU;have fg:=M.rel.tp;have hh:m.ztg=A.st.length+1:=by unfold MSt.ztg;omega
 unfold MSt.zcy;rw[q3.head bU rfl];simp only;cases nd with
 |num v=>
  rw[if_neg (by simp[hdr])];unfold Sto.zfJ;rw[q3.1];simp only;rw[if_neg (by omega),if_neg (by simp[hdr])];simp only;rw[if_neg (by omega),hh];exact zdT _ _ _ _ M
 |data t fs=>
  rw[if_neg (by simp only[hdr];rw[zbx (by omega)];omega)];unfold Sto.zfJ;rw[q3.1];simp only;rw[if_neg (by omega),if_neg (by simp only[hdr];rw[zbx (by omega)];omega)];simp only;rw[if_neg (by omega),hh];exact zdT _ _ _ _ M
 |busy=>
  rw[if_pos (by simp only[hdr];exact zbx (by omega))];exact zaS.error _ _ _
 |fwd b=>simp[zaV]at gr
 |clo b fs=>
  simp only;cases hb:sl[b]? with
  |none=>exact zaS.none _ _ _
  |some n=>
   simp only;have mO:m.s.zfJ sl p=some ((n:Int)-fs.length):=by
    unfold Sto.zfJ;rw[q3.1];simp only;rw[if_neg (by omega),if_pos (by simp only[hdr];exact zbx (by omega))];have hw:hdr (.clo b fs)/65536=(b:Int):=by simp only[hdr];exact zdE (by omega) bU.2
    have iG:hdr (.clo b fs)/16%4096=(fs.length:Int):=by simp only[hdr];exact zeb (by omega) bU.2
    rw[hw,zy2,hb,iG]
   rw[if_neg (by simp only[hdr];rw[zbx (by omega)];omega),mO];simp only;by_cases ev:n=fs.length
   ·rw[if_pos (by omega),if_pos ev];exact zsF M ht hn hb ev
   ·rw[if_neg (by omega),if_neg ev];by_cases aj:fs.length<n
    ·rw[if_pos aj,hh];exact zdT _ _ _ _ M
    ·rw[if_neg aj];exact zaS.none _ _ _
theorem znN(M:MR sl hf m A φ):zaS sl hf (m.enter sl) (A.enter hf sl):=by
 unfold Ma.enter;cases ht:A.st.getLast? with
 |none=>exact zaS.none _ _ _
 |some w=>
  cases w with
  |mk _ _=>exact zaS.none _ _ _
  |ad a=>
   obtain ⟨g0,g1⟩:=zgn ht;obtain ⟨w,x,w1,w2,w3⟩:=M.rel.word (d:=0) g0;rw[zAl,g1]at w1;cases w1;rw[zzO]at w2;have fg:=M.rel.tp;have gS:=M.rel.hi;have eE:=M.rel.wl;have sD:(zcE A.st 1++[Wd.ad (can A.h a)]).length=A.st.length:=by simp only[zyT,zy0,zdF];omega
   have tr:(zcE A.st 1++[Wd.ad (can A.h a)]).getLast?=some (.ad (can A.h a)):=by simp
   have key:∃ nd p m',A.h[can A.h a]?=some nd/\zaV nd=false/\φ (can A.h a)=some p/\MR sl hf m' { A with st:=zcE A.st 1++[.ad (can A.h a)] } φ/\m.enter sl=m'.zcy sl p:=by
    obtain ⟨q,rfl,hq⟩:=w3;have plain:∀ (c:Nat) (nd:Nd),φ c=some q->A.h[c]?=some nd->zaV nd=false->can A.h a=c->∃ nd p m',A.h[can A.h a]?=some nd/\zaV nd=false/\φ (can A.h a)=some p/\MR sl hf m' { A with st:=zcE A.st 1++[.ad (can A.h a)] } φ/\m.enter sl=m'.zcy sl p:=fun c nd hc hn gr jk=>by
     obtain ⟨b1,b2,b3⟩:=M.rel.zi2 hc hn gr;have bU:=M.rel.ok c nd hn;have R2:=zlM M.rel (x:=q) (w:=.ad (can A.h a)) g0 ⟨q,rfl,.inl (by rw[jk];exact hc)⟩;rw[zqR w2]at R2;refine ⟨nd,q,m,by rw[jk];exact hn,gr,by rw[jk];exact hc,⟨R2,M.half,M.fuel,M.next,M.below,M.vi⟩,?_⟩;unfold MSt.enter Sto.nodeAt;rw[zzO,w2];simp only;rw[if_neg (by omega),zy2,b3.head bU rfl];simp only[zzP];rw[if_neg (zmn gr).1]
    rcases hq with hq|⟨b,hb,hq⟩
    ·obtain ⟨nd,n1,n2,n3,n4⟩:=M.rel.nod a q hq;rcases n4 with ⟨b,p',rfl,n5,n6⟩|⟨n5,_⟩
     ·obtain ⟨nb,iJ,jZ⟩:=M.rel.fw a b n1;obtain ⟨FJ,c1,c2,c3,_⟩:=M.rel.nod b p' n5;have ak:=M.rel.ft;have hk:Hd 4 p' 0%16=4:=zbx (by omega);have hw:Hd 4 p' 0/65536=(p':Int):=zdE (by omega) (by omega);have jk:can A.h a=b:=zgl n1;have R2:=zlM M.rel (x:=p') (w:=.ad (can A.h a)) g0 ⟨p',rfl,.inl (by rw[jk];exact n5)⟩;refine ⟨nb,p',{ m with s:={ m.s with ws:=m.s.ws.set m.s.top p' } },by rw[jk];exact iJ,jZ,by rw[jk];exact n5,⟨R2,M.half,M.fuel,M.next,M.below,M.vi⟩,?_⟩;have eB:=zhd FJ;unfold MSt.enter Sto.nodeAt Sto.head;rw[zzO,w2];simp only;rw[if_neg (by omega),zy2,n6];simp only;rw[if_neg (by unfold Hd;omega)];simp only[zzP];rw[if_pos hk,if_neg (by omega),hw,zy2]
     ·exact plain a nd hq n1 n5 (zdc n1 n5)
    ·obtain ⟨nb,iJ,jZ⟩:=M.rel.fw a b hb;exact plain b nb hq iJ jZ (zgl hb)
   obtain ⟨nd,p,m',k1,k2,k3,k4,k5⟩:=key;rw[k5];have hs:=zpr k4 tr k1 k2 k3;rw[sD]at hs;simp only;rw[k1];cases nd <;> first|exact hs|simp[zaV]at k2
theorem zwo(M:MR sl hf m A φ)(i:Ins):zaS sl hf (m.step sl i) (A.step hf sl i):=by
 cases i with
 |push k=>exact zoa M k
 |zcW f=>exact zrP M f
 |num v=>exact zb2 M v
 |pack t c=>exact ztM M t c
 |close b c=>exact ztL M b c
 |hold b c=>exact zvD M b c
 |fill k c=>exact zvw M k c
 |wait b=>exact zij M 1 b
 |zbF c=>exact zij M 2 c
 |zci c=>exact zut M c
 |zbX=>exact zpD M
 |comp sg=>exact zpo M sg
 |enter=>exact znN M
 |jump b=>exact zaS.ok ⟨M.rel,M.half,M.fuel,rfl,M.below,M.vi⟩
 |choose zao=>exact zrg M zao
theorem zlK:∀ (l:List Ins) (m:MSt) (A:Ma) (φ:Nat->Option Nat),MR sl hf m A φ->zaS sl hf (m.zbb sl l) (A.zbb hf sl l)
 |[],m,A,φ,M=>zaS.ok M
 |i::l,m,A,φ,M=>by
  rw[Ma.zbb,MSt.zbb];unfold MSt.zsJ;rw[M.fuel];by_cases h0:A.fuel=0
  ·rw[if_pos h0,if_pos h0];exact zaS.error _ _ _
  ·rw[if_neg h0,if_neg h0];simp only;have M1:MR sl hf { m with o:={ m.o with fuel:=A.fuel-1 } } { A with fuel:=A.fuel-1 } φ:=⟨M.rel,M.half,rfl,M.next,M.below,M.vi⟩;cases hs:Ma.step hf sl { A with fuel:=A.fuel-1 } i with
   |none=>exact zaS.none _ _ _
   |some r=>
    have hr:=zwo M1 i r hs;cases r with
    |error k=>simp only at hr;rw[hr];exact zaS.error _ _ _
    |ok A2=>
     simp only at hr;obtain ⟨m2,φ2,g1,g2⟩:=hr;rw[g1];exact zlK l m2 A2 φ2 g2
theorem zq3(cd:List (Nat × List Ins)):∀ (g:Nat) (m:MSt) (A:Ma) (φ:Nat->Option Nat),MR (cd.map Prod.fst) hf m A φ->zaS (cd.map Prod.fst) hf (m.work cd g) (A.work hf cd g)
 |0,_,_,_,_=>zaS.none _ _ _
 |g+1,m,A,φ,M=>by
  rw[Ma.work,MSt.work,M.next];by_cases h1:A.next=-1
  ·rw[if_pos h1,if_pos h1];exact zaS.ok M
  ·rw[if_neg h1,if_neg h1];by_cases h2:A.next<0
   ·rw[if_pos h2,if_pos h2];exact zaS.none _ _ _
   ·rw[if_neg h2,if_neg h2];cases hc:cd[A.next.toNat]? with
    |none=>exact zaS.none _ _ _
    |some b=>
     obtain ⟨n,is⟩:=b;simp only;have fg:=M.rel.tp;have M1:MR (cd.map Prod.fst) hf { m with o:={ m.o with below:=(m.s.low:Int)+(m.s.half:Int)-(m.s.top:Int)-(n:Int) } } { A with below:=(A.st.length:Int)-n } φ:=⟨M.rel,M.half,M.fuel,M.next,by simp only;omega,M.vi⟩;cases hs:Ma.zbb hf (cd.map Prod.fst) is { A with below:=(A.st.length:Int)-n } with
     |none=>exact zaS.none _ _ _
     |some r=>
      have hr:=zlK is _ _ φ M1 r hs;cases r with
      |error k=>simp only at hr;rw[hr];exact zaS.error _ _ _
      |ok A2=>
       simp only at hr;obtain ⟨m2,φ2,g1,g2⟩:=hr;rw[g1];exact zq3 cd g m2 A2 φ2 g2
theorem zly:∀ (k i:Nat) (m:MSt) (A:Ma) (φ:Nat->Option Nat),MR sl hf m A φ->zaS sl hf (m.zbm i k) (A.zbm hf i k)
 |0,_,m,A,φ,M=>zaS.ok M
 |k+1,i,m,A,φ,M=>by
  rw[MSt.zbm,Ma.zbm];by_cases hi:i<=1000000000
  ·rw[if_pos hi];refine zcS M (fun m1 φ1 M1 hr ho=>?_);obtain ⟨n1,n2⟩:=zmy M1.rel (nd:=.clo i []) (xs:=[]) ⟨hi,by simp⟩ rfl (by simp[sz];omega) (by simp[sz]) (fun v hv=>by cases hv) (fun j f hf=>by simp[zdd]at hf);have hd:hdr (.clo i [])=Hd 2 i 0:=rfl;rw[hd]at n1 n2;rw[n1];simp only;refine zly k (i+1) _ _ (grow φ1 A.h.length m1.s.free) ⟨?_,M1.half,M1.fuel,M1.next,M1.below,zoT M1.vi rfl⟩;refine ⟨n2.low,n2.len,n2.wl,n2.lf,n2.ft,n2.tp,n2.stk,by simp[n2.fl],fun j a ha=>?_,n2.nod,n2.dis,n2.ok,n2.fw⟩;simp only at ha ⊢;rw[zzj]at ha;split at ha
   ·next gT=>
    obtain ⟨x,x1,x2⟩:=n2.fn j a ha;exact ⟨x,by rw[zzc (by have:=n2.fl;omega)];exact x1,x2⟩
   ·next gT=>
    have:=(zyL.1 ha).1;simp at this;have h1:j-A.fns.length=0:=by omega
    rw[h1]at ha;simp at ha;subst ha;have bZ:=n2.fl;have hj:j=m1.fns.length:=by omega
    exact ⟨m1.s.free,by rw[hj];simp,⟨m1.s.free,rfl,.inl (by simp[grow])⟩⟩
  ·rw[if_neg hi];exact zaS.none _ _ _
variable {nf main:Nat}
theorem zux(M:MR sl hf m A φ)(h1:m.o.nf=nf)(h2:m.o.main=main):zaS sl hf (m.start sl) (A.start hf sl nf main):=by
 unfold MSt.start Ma.start;rw[h1,zy2];cases hl:A.zbm hf 0 nf with
 |none=>exact zaS.none _ _ _
 |some r=>
  have hr:=zly nf 0 m A φ M r hl;cases r with
  |error k=>simp only at hr;rw[hr];exact zaS.error _ _ _
  |ok A1=>
   simp only at hr;obtain ⟨m1,φ1,g1,g2⟩:=hr;rw[g1];simp only;have ho:m1.o.main=main:=by
    have:∀ (k i:Nat) (m m1:MSt),m.zbm i k=some (.ok m1)->m1.o=m.o:=by
     intro k
     induction k with
     |zero=>intro i m m1 h;simp[MSt.zbm]at h;rw[h]
     |succ k ih=>
      intro i m m1 h;rw[MSt.zbm]at h;unfold aft at h;cases hn:m.zdI 1 with
      |none=>rw[hn]at h;simp at h
      |some q=>
       rw[hn]at h;cases q with
       |error j=>simp at h
       |ok m2=>
        simp only at h;have jo:m2.o=m.o:=by
         unfold MSt.zdI at hn;split at hn
         ·cases hn;rfl
         ·split at hn
          ·cases hn
          ·split at hn
           ·simp at hn
           ·cases hn;rfl
        split at h
        ·cases h
        ·exact (ih _ _ _ h).trans jo
    rw[this nf 0 m m1 g1];exact h2
   refine zcS g2 (fun m2 φ2 M2 hr jb=>?_);have cL:m2.o.main=main:=by rw[jb];exact ho
   rw[cL,if_neg (by omega),zy2];cases dr:A1.fns[main]? with
   |none=>simp only[];exact zaS.none _ _ _
   |some a=>
    obtain ⟨x,x1,x2⟩:=M2.rel.fn main a dr;obtain ⟨p1,p2⟩:=zc5 M2.rel hr (w:=.ad a) x2;simp only[x1,p1];exact znN (m:={ m2 with s:={ m2.s with top:=m2.s.top-1,ws:=m2.s.ws.set (m2.s.top-1) x } }) (A:={ A1 with st:=A1.st++[.ad a] }) ⟨p2,M2.half,M2.fuel,M2.next,M2.below,M2.vi⟩
variable {r:Int × Int × Int × Int}
theorem zwu(M:MR sl hf m A φ)(h:A.told=some r):m.told=some r:=by
 unfold Ma.told at h;cases ht:A.st.getLast? with
 |none=>rw[ht]at h;simp at h
 |some w=>
  rw[ht]at h;cases w with
  |mk _ _=>simp at h
  |ad a=>
   simp only at h;cases hn:A.h[a]? with
   |none=>rw[hn]at h;simp at h
   |some nd=>
    rw[hn]at h;cases nd with
    |num v=>
     obtain ⟨p,p1,p2,p3,p4,p5,p6⟩:=M.rel.zdB ht hn rfl;cases h;unfold MSt.told;rw[p2];simp only;rw[if_pos (by simp[hdr]),p6.2.1 v rfl]
    |data t fs=>
     obtain ⟨p,p1,p2,p3,p4,p5,p6⟩:=M.rel.zdB ht hn rfl;have bU:=M.rel.ok a _ hn;cases h;unfold MSt.told;rw[p2];simp only;have hk:hdr (.data t fs)%16=1:=by simp only[hdr];exact zbx (by omega)
     rw[if_neg (by omega),if_pos hk];simp only[hdr];rw[zdE (by omega) bU.2,zeb (by omega) bU.2]
    |clo b fs=>
     obtain ⟨p,p1,p2,p3,p4,p5,p6⟩:=M.rel.zdB ht hn rfl;cases h;unfold MSt.told;rw[p2];simp only;have hk:hdr (.clo b fs)%16=2:=by simp only[hdr];exact zbx (by omega)
     rw[if_neg (by omega),if_neg (by omega)]
    |busy=>simp at h
    |fwd b=>simp at h
variable {cd:List (Nat × List Ins)}{words g:Nat}
theorem zt2{pv:Value}{fuel:Nat}(hw:words<=1000000)(h:zwX (words/2) cd nf main fuel g=some r):runM pv cd nf main words fuel g=some r:=by
 have M0:MR (cd.map Prod.fst) (words/2) (MSt.new pv nf main words fuel) (Ma.new fuel) (fun _=>none):=by
  refine ⟨⟨.inl rfl,by simp only[MSt.new,zzz];omega,by simp only[MSt.new,zzz];exact hw,zyN _,by simp[MSt.new],by simp[MSt.new,Ma.new],by simp[Ma.new],rfl,by simp[Ma.new],by simp,by simp,by simp[Ma.new],by simp[Ma.new]⟩,rfl,rfl,rfl,rfl,by simp[Ma.new]⟩
 unfold zwX at h;unfold runM;cases hs:(Ma.new fuel).start (words/2) (cd.map Prod.fst) nf main with
 |none=>rw[hs]at h;simp at h
 |some q=>
  rw[hs]at h;have hq:=zux M0 (nf:=nf) (main:=main) rfl rfl q hs;cases q with
  |error k=>
   simp only at h hq;cases h;rw[hq]
  |ok A1=>
   simp only at h hq;obtain ⟨m1,φ1,g1,g2⟩:=hq;rw[g1];simp only;cases hw:Ma.work (words/2) cd g A1 with
   |none=>rw[hw]at h;simp at h
   |some q2=>
    rw[hw]at h;have bC:=zq3 cd g m1 A1 φ1 g2 q2 hw;cases q2 with
    |error k=>
     simp only at h bC;cases h;rw[bC]
    |ok A2=>
     simp only at h bC;obtain ⟨m2,φ2,k1,k2⟩:=bC;rw[k1];exact zwu k2 h
def Ma.up (e:Nat) (A:Ma):Ma:={ A with fuel:=A.fuel+e }
def UpR (e:Nat) (a a':Option (Except Nat Ma)):Prop:=∀ q,a=some q ->
 match q with
 |.error j=>j=4\/j=5\/a'=some (.error j)
 |.ok B=>a'=some (.ok (B.up e))
theorem UpR.none{e:Nat}{a':Option (Except Nat Ma)}:UpR e none a':=fun _ h=>by cases h
variable {e:Nat}
theorem UpR.err{j:Nat}:UpR e (some (.error j)) (some (.error j)):=fun q h=>by cases h;exact .inr (.inr rfl)
variable {a':Option (Except Nat Ma)}
theorem UpR.out4 :UpR e (some (.error 4)) a':=fun q h=>by cases h;exact .inl rfl
theorem UpR.out5 :UpR e (some (.error 5)) a':=fun q h=>by cases h;exact .inr (.inl rfl)
theorem UpR.ok{B:Ma}:UpR e (okA B) (okA (B.up e)):=fun q h=>by cases h;rfl
variable {hf dr e:Nat} {sl:List Nat}{A:Ma}
theorem zfZ(hh:hf<=dr){k:Nat}{f f':Ma->Option (Except Nat Ma)}(h:UpR e (f A) (f' (A.up e))):UpR e (ask hf k A f) (ask dr k (A.up e) f'):=by
 unfold ask;by_cases h1:Fits hf A k
 ·have h2:Fits dr (A.up e) k:=fun C c1 c2=>zyR (h1 C c1 c2) hh
  rw[if_pos h1,if_pos h2];exact h
 ·rw[if_neg h1];exact UpR.out4
theorem zcp(hh:hf<=dr)(v:Int):UpR e (A.zau hf v) ((A.up e).zau dr v):=zfZ hh UpR.ok
theorem zqG(hh:hf<=dr)(nd:List Nat->Nd)(c:Nat):UpR e (A.mkN hf nd c) ((A.up e).mkN dr nd c):=by
 refine zfZ hh ?_;show UpR e (match zlT A.st c with|none=>none|some fs=>okA _) (match zlT A.st c with|none=>none|some fs=>okA _);cases zlT A.st c with
 |none=>exact UpR.none
 |some fs=>exact UpR.ok
theorem zvX(hh:hf<=dr)(t c:Nat):UpR e (A.zn5 hf t c) ((A.up e).zn5 dr t c):=by
 unfold Ma.zn5;split
 ·exact zqG hh _ _
 ·exact UpR.none
theorem zvW(hh:hf<=dr)(t c:Nat):UpR e (A.zpH hf t c) ((A.up e).zpH dr t c):=by
 unfold Ma.zpH;split
 ·exact zqG hh _ _
 ·exact UpR.none
theorem zxo(hh:hf<=dr)(b c:Nat):UpR e (A.hold hf b c) ((A.up e).hold dr b c):=by
 unfold Ma.hold;split
 ·exact zfZ hh UpR.ok
 ·exact UpR.none
theorem ziU(hh:hf<=dr){w:Ma->Option Wd}(hw:w (A.up e)=w A):UpR e (A.zjF hf w) ((A.up e).zjF dr w):=by
 refine zfZ hh ?_;rw[hw];cases w A with
 |none=>exact UpR.none
 |some x=>exact UpR.ok
theorem zxm(k c:Nat):UpR e (A.fill k c) ((A.up e).fill k c):=by
 unfold Ma.fill;rw[show (A.up e).slot k=A.slot k from rfl,show (A.up e).h=A.h from rfl,show (A.up e).st=A.st from rfl];split
 ·split
  ·split
   ·split
    ·exact UpR.none
    ·exact UpR.ok
   ·exact UpR.none
  ·exact UpR.none
 ·exact UpR.none
theorem zwi(c:Nat):UpR e ((A.zci c).map .ok) (((A.up e).zci c).map .ok):=by
 unfold Ma.zci;rw[show (A.up e).below=A.below from rfl,show (A.up e).st=A.st from rfl];split
 ·exact UpR.ok
 ·exact UpR.none
theorem zxc(hh:hf<=dr)(sg:ByteArray)(l r:Int):UpR e (A.calc hf sg l r) ((A.up e).calc dr sg l r):=by
 unfold Ma.calc;split
 ·exact zcp hh _
 ·split
  ·exact zcp hh _
  ·split
   ·exact zcp hh _
   ·split
    ·split
     ·exact UpR.err
     ·exact zcp hh _
    ·split
     ·exact zqG hh _ _
     ·split
      ·exact zqG hh _ _
      ·exact UpR.none
theorem zrk(hh:hf<=dr)(sg:ByteArray):UpR e (A.compute hf sg) ((A.up e).compute dr sg):=by
 unfold Ma.compute;rw[show (A.up e).zdW 0=A.zdW 0 from rfl,show (A.up e).zdW 1=A.zdW 1 from rfl];split
 ·exact UpR.none
 ·exact UpR.err
 ·split
  ·exact UpR.none
  ·exact UpR.err
  ·exact zxc hh (A:={ A with st:=zcE A.st 2 }) sg _ _
theorem zva(hh:hf<=dr)(a b:Nat)(fs:List Nat):UpR e (A.zdy hf a b fs) ((A.up e).zdy dr a b fs):=zfZ hh UpR.ok
theorem zs3(hh:hf<=dr)(b c:Nat)(fs:List Nat):UpR e (A.extend hf b c fs) ((A.up e).extend dr b c fs):=by
 refine zfZ hh ?_;split
 ·show UpR e (match zlT (zcE A.st 2) c with|none=>none|some fs=>okA _) (match zlT (zcE A.st 2) c with|none=>none|some fs=>okA _);cases zlT (zcE A.st 2) c with
  |none=>exact UpR.none
  |some fs=>exact UpR.ok
 ·exact UpR.none
theorem zxf(hh:hf<=dr)(b lk lf:Nat)(fs:List Nat):UpR e (A.call hf b lk lf fs) ((A.up e).call dr b lk lf fs):=by
 refine zfZ hh ?_;rw[show (A.up e).st=A.st from rfl];split
 ·exact UpR.ok
 ·exact UpR.none
def UpB (e:Nat) (a a':Option (Except Nat (Bool × Ma))):Prop:=∀ q,a=some q ->
 match q with
 |.error j=>j=4\/j=5\/a'=some (.error j)
 |.ok B=>a'=some (.ok (B.1,B.2.up e))
theorem UpB.of{b:Bool}{a:Option (Except Nat Ma)}:UpR e a a'->UpB e (match a with|none=>none|some (.error k)=>some (.error k)|some (.ok A')=>some (.ok (b,A'))) (match a' with|none=>none|some (.error k)=>some (.error k)|some (.ok A')=>some (.ok (b,A'))):=by
 intro h q hq;cases a with
 |none=>simp at hq
 |some x=>
  have hx:=h x rfl;cases x with
  |error j=>
   simp at hq;subst hq;rcases hx with hx|hx|hx
   ·exact .inl hx
   ·exact .inr (.inl hx)
   ·exact .inr (.inr (by rw[hx]))
  |ok B=>
   simp at hq;subst hq;have ij:a'=some (.ok (B.up e)):=hx;simp only;rw[ij]
theorem zrb(hh:hf<=dr)(c:Nat):UpB e (A.za5 hf sl c) ((A.up e).za5 dr sl c):=by
 unfold Ma.za5;rw[show (A.up e).h=A.h from rfl,show (A.up e).st=A.st from rfl];split
 ·split
  ·intro q hq;cases hq;exact .inr (.inr rfl)
  ·intro q hq;cases hq;exact .inr (.inr rfl)
  ·split
   ·intro q hq;cases hq
   ·split
    ·intro q hq;cases hq
    ·split
     ·exact UpB.of (zs3 hh _ _ _)
     ·split
      ·intro q hq;cases hq
      ·exact UpB.of (zxf hh _ _ _ _)
  ·intro q hq;cases hq
 ·intro q hq;cases hq
theorem zeQ(hh:hf<=dr):∀ (g:Nat) {A:Ma},UpR e (A.za1 hf sl g) ((A.up e).za1 dr sl g)
 |0,A=>by rw[Ma.za1];exact UpR.none
 |g+1,A=>by
  rw[Ma.za1,Ma.za1];rw[show (A.up e).h=A.h from rfl,show (A.up e).st=A.st from rfl];split
  ·exact UpR.ok
  ·split
   ·split
    ·exact UpR.none
    ·split
     ·split
      ·split
       ·split
        ·split
         ·exact zeQ hh g (A:={ A with h:=A.h.set _ (.fwd _),st:=zcE A.st 3++[.ad _] })
         ·exact zeQ hh g (A:={ A with h:=A.h.set _ (.fwd _),st:=zcE A.st 3++[.ad _] })
         ·split
          ·exact zeQ hh g (A:={ A with h:=A.h.set _ (.fwd _),st:=zcE A.st 3++[.ad _] })
          ·exact UpR.none
         ·exact UpR.none
        ·exact UpR.none
       ·exact UpR.none
      ·exact UpR.none
     ·split
      ·split
       ·exact UpR.ok
       ·exact UpR.none
      ·split
       ·next b _ _ _ _ _=>
        have ha:=zrb (e:=e) (sl:=sl) hh (A:=A) b;cases hq:A.za5 hf sl b with
        |none=>exact UpR.none
        |some x=>
         have hx:=ha x hq;cases x with
         |error j=>
          intro q lx;cases lx;rcases hx with hx|hx|hx
          ·exact .inl hx
          ·exact .inr (.inl hx)
          ·exact .inr (.inr (by rw[hx]))
         |ok B=>
          have ij:(A.up e).za5 dr sl b=some (.ok (B.1,B.2.up e)):=hx;rw[ij];simp only;split
          ·exact UpR.ok
          ·exact zeQ hh g
       ·exact UpR.none
   ·exact UpR.none
theorem zqp(hh:hf<=dr):UpR e (A.enter hf sl) ((A.up e).enter dr sl):=by
 unfold Ma.enter;rw[show (A.up e).h=A.h from rfl,show (A.up e).st=A.st from rfl];split
 ·next a _=>
  simp only;have hg:UpR e (Ma.za1 hf sl (A.st.length+1) { A with st:=zcE A.st 1++[.ad (can A.h a)] }) (Ma.za1 dr sl (A.st.length+1) { (A.up e) with st:=zcE A.st 1++[.ad (can A.h a)] }):=zeQ hh _ (A:={ A with st:=zcE A.st 1++[.ad (can A.h a)] });split
  ·exact UpR.out5
  ·exact hg
  ·exact hg
  ·split
   ·exact UpR.none
   ·split
    ·exact zva hh (A:={ A with st:=zcE A.st 1++[.ad (can A.h a)] }) _ _ _
    ·split
     ·exact hg
     ·exact UpR.none
  ·exact UpR.none
 ·exact UpR.none
theorem znx(hh:hf<=dr){A:Ma}{t:Nat}{fs:List Nat}:∀ (l:List (Nat × Nat × Nat)),UpR e (A.zcc hf t fs l) ((A.up e).zcc dr t fs l)
 |[]=>by rw[Ma.zcc,Ma.zcc];exact UpR.err
 |(u,c,b)::l=>by
  rw[Ma.zcc,Ma.zcc];split
  ·split
   ·exact zfZ hh UpR.ok
   ·exact UpR.err
  ·exact znx hh l
theorem zsN(hh:hf<=dr)(zao:List (Nat × Nat × Nat)):UpR e (A.choose hf zao) ((A.up e).choose dr zao):=by
 unfold Ma.choose;rw[show (A.up e).h=A.h from rfl,show (A.up e).st=A.st from rfl];split
 ·split
  ·exact znx hh _
  ·exact UpR.err
  ·exact UpR.err
  ·exact UpR.none
 ·exact UpR.none
theorem zxU(hh:hf<=dr)(i:Ins):UpR e (A.step hf sl i) ((A.up e).step dr sl i):=by
 cases i with
 |push k=>exact ziU hh rfl
 |zcW f=>exact ziU hh rfl
 |num x=>exact zcp hh _
 |pack t c=>exact zvX hh _ _
 |close b c=>exact zvW hh _ _
 |hold b c=>exact zxo hh _ _
 |fill k c=>exact zxm _ _
 |wait b=>
  simp only[Ma.step];split
  ·exact ziU hh rfl
  ·exact UpR.none
 |zbF c=>
  simp only[Ma.step];split
  ·exact ziU hh rfl
  ·exact UpR.none
 |zci c=>exact zwi _
 |zbX=>
  simp only[Ma.step];rw[show (A.up e).zdW 0=A.zdW 0 from rfl];cases A.zdW 0 with
  |none=>exact UpR.none
  |some q=>
   cases q with
   |error j=>exact UpR.err
   |ok v=>exact UpR.ok
 |comp sg=>exact zrk hh _
 |enter=>exact zqp hh
 |jump b=>exact UpR.ok
 |choose zao=>exact zsN hh _
theorem zoc(hh:hf<=dr):∀ (l:List Ins) {A:Ma},UpR e (Ma.zbb hf sl l A) (Ma.zbb dr sl l (A.up e))
 |[],A=>by rw[Ma.zbb,Ma.zbb];exact UpR.ok
 |i::l,A=>by
  rw[Ma.zbb,Ma.zbb];by_cases h0:A.fuel=0
  ·rw[if_pos h0];exact UpR.out5
  ·have h1:¬ (A.up e).fuel=0:=by show ¬ A.fuel+e=0;omega
   rw[if_neg h0,if_neg h1];have hs:=zxU (e:=e) (sl:=sl) hh (A:={ A with fuel:=A.fuel-1 }) i;have hA:Ma.up e { A with fuel:=A.fuel-1 }={ A.up e with fuel:=(A.up e).fuel-1 }:=by
    unfold Ma.up;simp only[Ma.mk.injEq,true_and,and_true];omega
   rw[hA]at hs;cases hq:Ma.step hf sl { A with fuel:=A.fuel-1 } i with
   |none=>exact UpR.none
   |some x=>
    have hx:=hs x hq;cases x with
    |error j=>
     intro q lx;cases lx;rcases hx with hx|hx|hx
     ·exact .inl hx
     ·exact .inr (.inl hx)
     ·exact .inr (.inr (by rw[hx]))
    |ok B=>
     have ij:Ma.step dr sl { A.up e with fuel:=(A.up e).fuel-1 } i=some (.ok (B.up e)):=hx;rw[ij];exact zoc hh l
theorem zuR(hh:hf<=dr){cd:List (Nat × List Ins)}:∀ (g:Nat) {A:Ma},UpR e (Ma.work hf cd g A) (Ma.work dr cd g (A.up e))
 |0,A=>by rw[Ma.work];exact UpR.none
 |g+1,A=>by
  rw[Ma.work,Ma.work];rw[show (A.up e).next=A.next from rfl,show (A.up e).st=A.st from rfl];split
  ·exact UpR.ok
  ·split
   ·exact UpR.none
   ·split
    ·exact UpR.none
    ·next n is _=>
     have hs:UpR e (Ma.zbb hf (cd.map Prod.fst) is { A with below:=(A.st.length:Int)-n }) (Ma.zbb dr (cd.map Prod.fst) is ⟨(A.up e).h,A.st,(A.up e).fns,(A.up e).fuel,A.next,(A.st.length:Int)-n⟩):=zoc (e:=e) (sl:=cd.map Prod.fst) hh is (A:={ A with below:=(A.st.length:Int)-n });cases hq:Ma.zbb hf (cd.map Prod.fst) is { A with below:=(A.st.length:Int)-n } with
     |none=>exact UpR.none
     |some x=>
      have hx:=hs x hq;cases x with
      |error j=>
       intro q lx;cases lx;rcases hx with hx|hx|hx
       ·exact .inl hx
       ·exact .inr (.inl hx)
       ·exact .inr (.inr (by rw[hx]))
      |ok B=>
       have ij:Ma.zbb dr (cd.map Prod.fst) is ⟨(A.up e).h,A.st,(A.up e).fns,(A.up e).fuel,A.next,(A.st.length:Int)-n⟩=some (.ok (B.up e)):=hx;rw[ij];exact zuR hh g
theorem znX(hh:hf<=dr):∀ (m i:Nat) {A:Ma},UpR e (A.zbm hf i m) ((A.up e).zbm dr i m)
 |0,i,A=>by rw[Ma.zbm,Ma.zbm];exact UpR.ok
 |m+1,i,A=>by
  rw[Ma.zbm,Ma.zbm];split
  ·refine zfZ hh ?_;exact znX hh m (i+1) (A:={ A with h:=A.h++[.clo i []],fns:=A.fns++[A.h.length] })
  ·exact UpR.none
theorem zwm(hh:hf<=dr)(nf main:Nat):UpR e (A.start hf sl nf main) ((A.up e).start dr sl nf main):=by
 unfold Ma.start;have hs:=znX (e:=e) hh nf 0 (A:=A);cases hq:A.zbm hf 0 nf with
 |none=>exact UpR.none
 |some x=>
  have hx:=hs x hq;cases x with
  |error j=>
   intro q lx;cases lx;rcases hx with hx|hx|hx
   ·exact .inl hx
   ·exact .inr (.inl hx)
   ·exact .inr (.inr (by rw[hx]))
  |ok B=>
   have ij:(A.up e).zbm dr 0 nf=some (.ok (B.up e)):=hx;rw[ij];refine zfZ hh ?_;rw[show (B.up e).fns=B.fns from rfl];cases B.fns[main]? with
   |none=>exact UpR.none
   |some a=>exact zqp hh (A:={ B with st:=B.st++[.ad a] })
theorem zpM(hh:hf<=dr){fuel dP:Nat}(pW:fuel<=dP)(h:zwX hf cd nf main fuel g=some r)(h4:r≠(4,0,0,0))(h5:r≠(5,0,0,0)):zwX dr cd nf main dP g=some r:=by
 obtain ⟨e,rfl⟩:∃ e,dP=fuel+e:=⟨dP - fuel,by omega⟩;have hs:=zwm (e:=e) (sl:=cd.map Prod.fst) hh (A:=Ma.new fuel) nf main;rw[show Ma.up e (Ma.new fuel)=Ma.new (fuel+e) from rfl]at hs;unfold zwX at h ⊢;cases hq:(Ma.new fuel).start hf (cd.map Prod.fst) nf main with
 |none=>rw[hq]at h;cases h
 |some x=>
  have hx:=hs x hq;rw[hq]at h;cases x with
  |error j=>
   simp only[zyP]at h;subst h;rcases hx with hx|hx|hx
   ·subst hx;exact absurd rfl h4
   ·subst hx;exact absurd rfl h5
   ·rw[hx]
  |ok B=>
   have ij:(Ma.new (fuel+e)).start dr (cd.map Prod.fst) nf main=some (.ok (B.up e)):=hx;rw[ij];simp only at h ⊢;have hw:=zuR (e:=e) (cd:=cd) hh g (A:=B);cases bC:Ma.work hf cd g B with
   |none=>rw[bC]at h;cases h
   |some y=>
    have hy:=hw y bC;rw[bC]at h;cases y with
    |error j=>
     simp only[zyP]at h;subst h;rcases hy with hy|hy|hy
     ·subst hy;exact absurd rfl h4
     ·subst hy;exact absurd rfl h5
     ·rw[hy]
    |ok C=>
     have Fx:Ma.work dr cd g (B.up e)=some (.ok (C.up e)):=hy;rw[Fx];exact h
end Ab
end Go.Proofs.YtgahgkddaljmkaaGreatDoor
namespace Go.Proofs.YtgahgkddaljmkaaGreatDoor
open Tryz
open Go.RowKit
namespace Th
theorem zoX{wr tT:Ex->List (List UInt8)->List Nat}{P:Ex->Nat->Nat->Prop}{ar:List (List UInt8)}:∀ (l:List Tok) (es:List Ex) (lo hi:Nat) (seen:List (List UInt8)),zbd P lo hi l es->(∀ e∈es,∀ lo hi ar,P e lo hi->wr e ar=tT e ar)->zbq wr ar seen l es=zbq tT ar seen l es
 |[],[],_,_,_,_,_=>rfl
 |[],_::_,_,_,_,h,_=>h.elim
 |_::_,[],_,_,_,h,_=>h.elim
 |t::l,e::es,lo,hi,seen,⟨_,m,h1,h2⟩,hw=>by
  rw[zbq,zbq,hw e (by simp) _ _ ar h1,zoX l es m hi _ h2 (fun x hx=>hw x (by simp[hx]))]
theorem zqZ{wr tT:Ex->List (List UInt8)->List Nat}{P:Ex->Nat->Nat->Prop}{ar:List (List UInt8)}:∀ (l:List (Nat × List Tok)) (es:List Ex) (lo hi:Nat),zcb P lo hi l es->(∀ e∈es,∀ lo hi ar,P e lo hi->wr e ar=tT e ar)->zeG wr ar l es=zeG tT ar l es
 |[],[],_,_,_,_=>rfl
 |[],_::_,_,_,h,_=>h.elim
 |_::_,[],_,_,h,_=>h.elim
 |t::l,e::es,lo,hi,⟨m1,m2,_,h1,h2⟩,hw=>by
  rw[zeG,zeG,hw e (by simp) _ _ _ h1,zqZ l es m2 hi h2 (fun x hx=>hw x (by simp[hx]))]
theorem zo3:∀ (N K:Nat) (e:Ex) (lo hi:Nat) (ar:List (List UInt8)),In N e lo hi->Cp.Dp K e->zar N e ar=zar K e ar
 |0,_,_,_,_,_,h,_=>h.elim
 |_+1,0,_,_,_,_,_,h=>h.elim
 |N+1,K+1,e,lo,hi,ar,h,hd=>by
  have ih:=fun (x:Ex) (hx:x∈e.kids) (lo hi:Nat) (ar:List (List UInt8)) (eX:In N x lo hi)=>zo3 N K x lo hi ar eX (hd.2 x hx)
  rcases h.2 with hk|⟨hk,_⟩|⟨hk,b,m',k1,_,k2⟩|⟨hk,e1,e2,m',k1,k2,k3⟩|⟨hk,b,parts,m',k1,k2,k3⟩|⟨hk,b,ag,m',k1,k2,k3⟩
  ·rw[znh hk,znh hk]
  ·rw[zuX hk,zuX hk]
  ·rw[zuV hk k1,zuV hk k1,ih b (by simp[k1]) _ _ _ k2]
  ·rw[zq4 hk k1,zq4 hk k1,ih e1 (by simp[k1]) _ _ _ k2,ih e2 (by simp[k1]) _ _ _ k3]
  ·rw[zuW hk k1,zuW hk k1,ih b (by simp[k1]) _ _ _ k3,zoX _ _ _ _ _ k2 (fun x hx lo hi ar hP=>ih x (by simp[k1,hx]) lo hi ar hP)]
  ·rw[zqa hk k1,zqa hk k1,ih b (by simp[k1]) _ _ _ k2,zqZ _ _ _ _ k3 (fun x hx lo hi ar hP=>ih x (by simp[k1,hx]) lo hi ar hP)]
theorem zoZ{N K:Nat}{all:List (List UInt8)}:∀ (l:List zbr) (lo hi:Nat) (seen:List (List UInt8)),zbM N lo hi l->(∀ f∈l,Cp.Dp K f.e)->zbL N all seen l=zbL K all seen l
 |[],_,_,_,_,_=>rfl
 |x::l,lo,hi,seen,⟨_,m1,m2,_,h1,h2⟩,hd=>by
  rw[zbL,zbL,zo3 N K x.e _ _ _ h1 (hd x (by simp)),zoZ l _ _ _ h2 (fun f hf=>hd f (by simp[hf]))]
end Th
def zmt (s:ByteArray):Option (List Th.zbr × Th.St):=Th.zcn (Th.zdJ 1000) 1000 [] ⟨zay s,none⟩
theorem zjz(s:ByteArray)(hs:s.size<=600):∃ q N,zmt s=some q/\Plain s q N:=by
 have hr:Th.zcx 0 (s.size+1) (zay s):=by
  have:=Th.zhu (s.size+1) s.data.toList 0;rw[zAe,zzG]at this;exact this
 have hl:=hr.len;obtain ⟨q,h1,h2⟩:=Th.zjA (Th.zmC 1000) 1000 [] ⟨zay s,none⟩ ⟨zay s,none⟩ ⟨Th.Step.refl _,fun lo M hr _=>⟨0,lo,zyN _,hr⟩⟩ (by show (zay s).length+1<1000;omega) (by show (zay s).length+1+1<1000;omega);by_cases hb:q.2.bad=none
 ·obtain ⟨N,m,i1,i2⟩:=h2.inn 0 (s.size+1) hr hb;have:=i2.len;exact ⟨q,N,h1,zev s hs,Th.zm8 _ _ _,⟨1000,1000,by omega,by omega,h1⟩,fun _=>⟨0,m,i1,by omega⟩⟩
 ·exact ⟨q,0,h1,zev s hs,Th.zm8 _ _ _,⟨1000,1000,by omega,by omega,h1⟩,fun h=>absurd h hb⟩
variable {s:ByteArray}{q:List Th.zbr × Th.St}{N:Nat}
theorem zvZ(hs:s.size<=600)(hp:Plain s q N)(hb:q.2.bad=none):∀ f∈q.1,Cp.Dp 1300 f.e:=by
 obtain ⟨n,k,_,_,hq⟩:=hp.lines;have hl:=Th.zfE (s.size+1) s.data.toList 0;have hz:s.data.toList.length=s.size:=by rw[zAe];rfl
 rw[hz]at hl;have aj:(zay s).length<=s.size+1:=hl;obtain ⟨m,w1,w2⟩:=Th.zgp k [] _ ⟨zay s,none⟩ q hq (zqw hp.zct) (fun _=>⟨0,by simp,0,by simp,by simp⟩) hb;simp only at w2;have dj:∀ f∈q.1,Cp.wt m f.e<=1300:=fun f hf=>by have:=Th.zhY (fun f=>Cp.wt m f.e+f.params.length+1) hf;omega
 exact fun f hf=>(Th.zxi (w1 f hf).1).le (dj f hf)
theorem zsu(hs:s.size<=600)(hp:Plain s q N):answer s.size q N=answer s.size q 1300:=by
 unfold answer;cases hb:q.2.bad with
 |some p=>rfl
 |none=>
  obtain ⟨lo,hi,hin,_⟩:=hp.within hb;rw[Th.zoZ q.1 lo hi [] hin (zvZ hs hp hb)]
def zdw (s:ByteArray) (heap fuel:Int) (r:Ab.zsp) (c:Int):Prop:=∀ w:World,
 Calls prog 25 #[.string s,.int .i64 heap,.int .i64 fuel] w fun e w'=>e=.returned (.tuple #[ziu r.1 r.2.1 r.2.2.1 r.2.2.2,.int .i64 c])/\Fr (fun _=>False) w w'
noncomputable abbrev runL (l:List Th.zbr) (heap fuel:Int):Nat->Option Ab.zsp:=Ab.zwX (zb9 heap 262144/2) (Cp.program 1300 l) l.length ((Th.zaq l).idxOf Th.zcO) (zb9 fuel 4000000)
theorem zqm(x:Int)(m:Nat):zb9 x m<=m:=by unfold zb9;omega
variable {heap fuel:Int}
theorem zjN(hs:s.size<=600)(hp:Plain s q N)(h0:(answer s.size q N).1=0){r:Ab.zsp}(h:Ab.Sure (runL q.1 heap fuel) r):zdw s heap fuel r 0:=by
 obtain ⟨c,hc⟩:=h;have h1:=hc 0;rw[zzG]at h1;have:=zqm heap 262144;exact fun w=>zwv hs hp h0 heap fuel (g:=c) (fun pv=>Ab.zt2 (by omega) h1) w
theorem zkr{cd:List (Nat × List Ins)}(c:Nat):∀ (g:Nat) (m:MSt) (q:Except Nat MSt),MSt.work cd g m=some q->MSt.work cd (g+c) m=some q
 |0,_,_,h=>by simp[MSt.work]at h
 |g+1,m,q,h=>by
  rw[show g+1+c=(g+c)+1 by omega];rw[MSt.work]at h ⊢;split at h
  ·next h1=>rw[if_pos h1];exact h
  ·next h1=>
   rw[if_neg h1];split at h
   ·cases h
   ·next h2=>
    rw[if_neg h2];split at h
    ·cases h
    ·split at h
     ·cases h
     ·exact h
     ·next m2 hk=>exact zkr c g m2 q h
theorem zt1(pv:Value)(cd:List (Nat × List Ins))(nf main words fu g c:Nat)(r:Ab.zsp)(h:runM pv cd nf main words fu g=some r):runM pv cd nf main words fu (g+c)=some r:=by
 unfold runM at h ⊢;split at h
 ·cases h
 ·exact h
 ·next m1 hk=>
  split at h
  ·cases h
  ·next k hw=>rw[zkr c g m1 _ hw];exact h
  ·next m2 hw=>rw[zkr c g m1 _ hw];exact h
variable {words g:Nat}
theorem zod{fu:Nat}{r:Ab.zsp}(hs:s.size<=600)(hq:zmt s=some q)(h0:(answer s.size q 1300).1=0)(hr:runM (.int .i64 0) (Cp.program 1300 q.1) q.1.length ((Th.zaq q.1).idxOf Th.zcO) words fu g=some r)(h4:r≠(4,0,0,0))(h5:r≠(5,0,0,0))(hw:words<=zb9 heap 262144)(hf:fu<=zb9 fuel 4000000):zdw s heap fuel r 0:=by
 obtain ⟨q',N,e1,hp⟩:=zjz s hs;rw[hq]at e1;cases e1;rw[<-zsu hs hp]at h0;have ho:=zmA hs hp h0;have:=zqm heap 262144;obtain ⟨r',c,hc⟩:=Sf.zjK ho (words/2) fu;have h1:=Ab.zt2 (pv:=.int .i64 0) (words:=words) (by omega) (hc g);have nZ:r'=r:=by
  have h2:=hr;have h3:=zt1 (.int .i64 0) (Cp.program 1300 q.1) q.1.length ((Th.zaq q.1).idxOf Th.zcO) words fu g c r h2;rw[h3]at h1;cases h1;rfl
 subst nZ;have h2:=Ab.zpM (hf:=words/2) (dr:=zb9 heap 262144/2) (by omega) hf (hc 0) h4 h5;refine zjN hs hp h0 ⟨c,fun k=>?_⟩;exact Ab.zpM (hf:=words/2) (dr:=zb9 heap 262144/2) (by omega) hf (hc k) h4 h5
end Go.Proofs.YtgahgkddaljmkaaGreatDoor
namespace Go.Proofs.YtgahgkddaljmkaaGreatDoor
open Tryz
def zsX (s:ByteArray) (words fu g:Nat) (r:Ab.zsp):Bool:=
 match zmt s with
 |none=>false
 |some q=>(answer s.size q 1300).1 == 0 && (runM (.int .i64 0) (Cp.program 1300 q.1) q.1.length ((Th.zaq q.1).idxOf Th.zcO) words fu g == some r)
variable {s:ByteArray}{words g:Nat}{heap fuel:Int}
theorem zhR{fu:Nat}{r:Ab.zsp}(h:zsX s words fu g r=true)(hs:s.size<=600)(h4:r≠(4,0,0,0))(h5:r≠(5,0,0,0))(hw:words<=zb9 heap 262144)(hf:fu<=zb9 fuel 4000000):zdw s heap fuel r 0:=by
 unfold zsX at h;split at h
 ·cases h
 ·next q hq=>
  rw[zzv]at h;exact zod hs hq (by simpa using h.1) (by simpa using h.2) h4 h5 hw hf
def wk0:ByteArray:=⟨#[107,32,120,32,121,32,61,32,120,59,32,109,97,105,110,32,61,32,107,32,52,32,40,49,32,47,32,48,41,59]⟩
theorem zwz:zsX wk0 100 60 30 (1,4,0,0)=true:=by kernel_rfl
theorem zwA:zdw wk0 262144 4000000 (1,4,0,0) 0:=zhR zwz (by decide) (by decide) (by decide) (by decide) (by decide)
def wk1:ByteArray:=⟨#[109,97,105,110,32,61,32,123,55,44,50,125,32,40,49,32,47,32,48,41,32,51,59]⟩
theorem zwB:zsX wk1 100 60 30 (2,0,7,2)=true:=by kernel_rfl
theorem zwC:zdw wk1 262144 4000000 (2,0,7,2) 0:=zhR zwB (by decide) (by decide) (by decide) (by decide) (by decide)
def wk2:ByteArray:=⟨#[109,97,105,110,32,61,32,49,32,47,32,48,59]⟩
theorem zwD:zsX wk2 100 60 30 (3,0,0,0)=true:=by kernel_rfl
theorem zwE:zdw wk2 262144 4000000 (3,0,0,0) 0:=zhR zwD (by decide) (by decide) (by decide) (by decide) (by decide)
end Go.Proofs.YtgahgkddaljmkaaGreatDoor
namespace Go.Proofs.YtgahgkddaljmkaaGreatDoor
open Tryz
open Go.RowKit
attribute [local go_sem ↓] Go.wp_at_zero Go.wp_at_succ
theorem zo2(w:World):
  Calls prog 20 #[] w fun e w'=>e=.returned (.bool true)/\Fr (fun _=>False) w w':=by
 have H0:=zwA;have H1:=zwC;have H2:=zwE;unfold zdw wk0 ziu at H0;unfold zdw wk1 ziu at H1;unfold zdw wk2 ziu at H2;have K0:=zab H0;have K1:=zab H1;have K2:=zab H2;clear H0 H1 H2;go_enter func20,ntmps20
 go_wp2_with fail
 refine (K0.o _).mono ?_;rintro e w1 ⟨rfl,f1⟩;have F1:=zab (f1.alloc (.cells #[.int .i64 1,.int .i64 4,.int .i64 0,.int .i64 0] 35));have B1:=zab (Blk.new w1 [.int .i64 1,.int .i64 4,.int .i64 0,.int .i64 0] 35);clear f1;go_wp2_with fail
 refine (K1.o _).mono ?_;rintro e w2 ⟨rfl,f2⟩;have F2:=zab ((F1.o.trans f2).alloc (.cells #[.int .i64 2,.int .i64 0,.int .i64 7,.int .i64 2] 35));have B2:=zab (Blk.new w2 [.int .i64 2,.int .i64 0,.int .i64 7,.int .i64 2] 35);have Bg:=zab (Fr.blk B1.o (f2.alloc (.cells #[.int .i64 2,.int .i64 0,.int .i64 7,.int .i64 2] 35)) (by simp));clear f2;go_wp2_with fail
 refine (K2.o _).mono ?_;rintro e w3 ⟨rfl,f3⟩;have F3:=zab ((F2.o.trans f3).alloc (.cells #[.int .i64 3,.int .i64 0,.int .i64 0,.int .i64 0] 35));have b3:=Blk.new w3 [.int .i64 3,.int .i64 0,.int .i64 0,.int .i64 0] 35;have q8:=Fr.blk B2.o (f3.alloc (.cells #[.int .i64 3,.int .i64 0,.int .i64 0,.int .i64 0] 35)) (by simp);have qZ:=Fr.blk Bg.o (f3.alloc (.cells #[.int .i64 3,.int .i64 0,.int .i64 0,.int .i64 0] 35)) (by simp);have c10:=qZ.cell 0;have c11:=qZ.cell 1;have wj:=qZ.cell 2;have wo:=qZ.cell 3;have Dw:=q8.cell 0;have Dx:=q8.cell 1;have Dy:=q8.cell 2;have Dz:=q8.cell 3;have DA:=b3.cell 0;have DB:=b3.cell 1;have DC:=b3.cell 2;have DD:=b3.cell 3;simp at c10 c11 wj wo Dw Dx Dy Dz DA DB DC DD;clear f3 b3 q8 qZ;go_wp2_with fail
 go_ret
 exact ⟨rfl,F3.o⟩
def zmD (c n:Int):Int:=(if c<0 then -(c+1) else c)%n
theorem zfA{c n:Int}(hn:0<n):0<=zmD c n/\zmD c n<n:=⟨Int.emod_nonneg _ (by omega),Int.emod_lt_of_pos _ hn⟩
theorem zfB{c n:Int}(h1:-9223372036854775808<=c)(h2:c<=9223372036854775807)(hn:0<n)(eY:n<=9223372036854775807)(w:World):
  Calls prog 23 #[.int .i64 c,.int .i64 n] w fun e w'=>e=.returned (.int .i64 (zmD c n))/\w'=w:=by
 by_cases hc:c<0
 ·go_enter func23,ntmps23
  go_wp2_with fail
  go_ret
  refine ⟨?_,rfl⟩;unfold zmD;rw[if_pos hc,<-Int.neg_tmod,Int.tmod_eq_emod_of_nonneg (by omega)];rfl
 ·go_enter func23,ntmps23
  go_wp2_with fail
  go_ret
  refine ⟨?_,rfl⟩;unfold zmD;rw[if_neg (by omega)];rfl
end Go.Proofs.YtgahgkddaljmkaaGreatDoor
