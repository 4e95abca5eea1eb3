/- Gc11 .. Gc12 -/
import Derived.Test.YtgahgkddaljmkaaGreatDoorW37
set_option maxRecDepth 100000
set_option maxHeartbeats 4000000
namespace Go.Proofs.YtgahgkddaljmkaaGreatDoor
open Tryz
namespace Ab
variable {sl:List Nat} {hf:Nat} {m:MSt} {A:Ma} {φ:Nat->Option Nat}
variable {st:List Wd}
variable {c:Nat}
theorem zmd{i:Nat}{w:Wd}(h:(zcE st c)[i]?=some w):st[i]?=some w:=by
 unfold zcE at h;rw[zzy]at h;split at h
 ·exact h
 ·cases h
theorem zdF(st:List Wd)(c:Nat):(zcE st c).length=st.length-c:=by unfold zcE;rw[zzf];omega
variable {a b:Nat}
theorem zrs(M:MR sl hf m A φ){n:Nat}{fs:List Nat}(ht:A.st.getLast?=some (.ad a))(hn:A.h[a]?=some (.clo b fs))(_hb:sl[b]?=some n):zaS sl hf (m.extend c) (A.extend hf b c fs):=by
 have bU:=M.rel.ok a _ hn;obtain ⟨p,p1,p2,p3,p4,p5,p6⟩:=M.rel.zdB ht hn rfl;have hc:cnt (hdr (.clo b fs))=fs.length:=zi9 bU rfl;unfold MSt.extend;rw[p2];simp only;rw[hc];refine zcS M (fun m1 φ1 M1 hr ho=>?_);split
 ·next hg=>
  cases fg:zlT (zcE A.st 2) c with
  |none=>exact zaS.none _ _ _
  |some gs=>
   obtain ⟨t1,t2,t3⟩:=ziX fg;rw[zdF]at t1;obtain ⟨q,q1,q2,q3,q4,q5,q6⟩:=M1.rel.zdB ht hn rfl;have cT:sz (.clo b fs)=1+fs.length:=rfl;have gS:=M1.rel.hi;have iY:=M1.rel.ft;have yd:=M1.rel.tp;obtain ⟨f1,f2⟩:=q6.fields (by simp only[zdd];omega);simp only[zdd]at f1 f2;have hw:hdr (.clo b fs)/65536=(b:Int):=by simp only[hdr];exact zdE (by omega) bU.2
   have bg:m1.s.node (Hd 2 b (fs.length+c)) (m1.s.words (q+1) fs.length)=some { m1.s with free:=m1.s.free+1+fs.length,ws:=Go.splice (m1.s.ws.set m1.s.free (Hd 2 b (fs.length+c))) (m1.s.free+1) (m1.s.words (q+1) fs.length) }:=by
    unfold Sto.node;rw[f1,if_pos (by omega)]
   obtain ⟨s2,e2⟩:∃ s2:Sto,s2={ m1.s with free:=m1.s.free+1+fs.length,ws:=Go.splice (m1.s.ws.set m1.s.free (Hd 2 b (fs.length+c))) (m1.s.free+1) (m1.s.words (q+1) fs.length) }:=⟨_,rfl⟩;rw[<-e2]at bg;have rq:s2.free=m1.s.free+1+fs.length:=by rw[e2]
   have DJ:s2.top=m1.s.top:=by rw[e2]
   have zB:s2.ws.length=m1.s.ws.length:=by rw[e2];simp only;rw[zzM _ _ _ (by rw[zy6,f1];omega),zy6]
   have gI:∀ j,s2.ws[j]?=if j=m1.s.free then some (Hd 2 b (fs.length+c)) else if m1.s.free<j/\j<m1.s.free+1+fs.length then (m1.s.words (q+1) fs.length)[j-(m1.s.free+1)]? else m1.s.ws[j]?:=by
    intro j;rw[e2];simp only;rw[zbu _ _ _ _ (by rw[zy6,f1];omega),f1];by_cases h1:j=m1.s.free
    ·rw[if_pos (by omega),if_pos h1,h1,zyV,if_pos rfl,if_pos (by omega)]
    ·have cS:(m1.s.ws.set m1.s.free (Hd 2 b (fs.length+c)))[j]?=m1.s.ws[j]?:=by rw[zyV,if_neg (fun e=>h1 e.symm)]
     rw[if_neg h1];by_cases h2:j<m1.s.free+1
     ·rw[if_pos h2,if_neg (by omega),cS]
     ·rw[if_neg h2];by_cases h3:j<m1.s.free+1+fs.length
      ·rw[if_pos h3,if_pos (by omega)]
      ·rw[if_neg h3,if_neg (by omega),cS]
   have eE:(s2.words (s2.top+2) c).length=c:=by unfold Sto.words;rw[zzf,zzu];omega
   have Fs:∀ i,i<c->(s2.words (s2.top+2) c)[i]?=m1.s.ws[m1.s.top+(2+i)]?:=fun i hi=>by
    unfold Sto.words;rw[zzy,if_pos hi,zzx,DJ,gI,if_neg (by omega),if_neg (by omega),show m1.s.top+2+i=m1.s.top+(2+i) by omega]
   obtain ⟨pC,e3⟩:∃ pC,pC=Go.splice s2.ws s2.free (s2.words (s2.top+2) c):=⟨_,rfl⟩;have DK:pC.length=m1.s.ws.length:=by rw[e3,zzM _ _ _ (by rw[eE];omega),zB]
   have jG:∀ j,pC[j]?=if j<s2.free then s2.ws[j]? else if j<s2.free+c then (s2.words (s2.top+2) c)[j-s2.free]? else s2.ws[j]?:=fun j=>by rw[e3,zbu _ _ _ _ (by rw[eE];omega),eE]
   have ph:sz (.clo b (fs++gs))=1+fs.length+c:=by simp[sz,t2];omega
   have kV:∀ (i f:Nat),(zdd (.clo b (fs++gs)))[i]?=some f->∃ x,pC[m1.s.free+1+i]?=some x/\Rf (grow φ1 A.h.length m1.s.free) (A.h++[.clo b (fs++gs)]) x f:=by
    intro i f hf';simp only[zdd]at hf';rw[zzj]at hf';split at hf'
    ·next br=>
     obtain ⟨x,x1,x2⟩:=f2 i f hf';refine ⟨x,?_,x2.mono (M1.rel.grown _) zhE⟩;rw[jG,if_pos (by omega),gI,if_neg (by omega),if_pos (by omega),show m1.s.free+1+i-(m1.s.free+1)=i by omega];exact x1
    ·next br=>
     have fX:=(zyL.1 hf').1;have dY:=zmd (t3 (i-fs.length) f hf');rw[zdF]at dY;obtain ⟨w,x,w1,w2,w3⟩:=M1.rel.word (d:=2+(i-fs.length)) (by omega);rw[show A.st.length-1-(2+(i-fs.length))=A.st.length-2-1-(i-fs.length) by omega,dY]at w1;cases w1;refine ⟨x,?_,Rf.mono (M1.rel.grown _) zhE w3⟩;rw[jG,if_neg (by omega),if_pos (by omega),show m1.s.free+1+i-s2.free=i-fs.length by omega,Fs _ (by omega)];exact w2
   have R2:=M1.rel.alloc (ws':=pC) (nd:=.clo b (fs++gs)) ⟨bU.1,by rw[zyT,t2];exact hg.1⟩ rfl (by rw[ph];omega) DK (fun j hj=>by
    rw[ph]at hj;rw[jG];by_cases h1:j<s2.free
    ·rw[if_pos h1,gI,if_neg (by omega),if_neg (by omega)]
    ·rw[if_neg h1,if_neg (by omega),gI,if_neg (by omega),if_neg (by omega)])
    ⟨(by rw[jG,if_pos (by omega),gI,if_pos rfl];simp only[hdr];rw[zyT,t2]),(fun v hv=>(by cases hv)),kV⟩
   rw[ph]at R2;obtain ⟨u1,u2⟩:=zhQ R2 (c:=2+c) (by omega);obtain ⟨v1,v2⟩:=zc5 u2 (x:=m1.s.free) (w:=.ad A.h.length) (by simp only;omega) ⟨m1.s.free,rfl,.inl (by simp[grow])⟩;unfold MSt.extended;rw[q2];simp only;rw[hc,hw,zy2,if_pos ⟨hg.1,by have:=bU.1;omega,by omega,by omega,hg.2⟩,bg];simp only;rw[if_pos ⟨by rw[gI,if_neg (by omega),if_neg (by omega)];exact q6.1,zB,by omega,by omega⟩];have bP:({ s2 with ws:=Go.splice s2.ws s2.free (s2.words (s2.top+2) c),free:=s2.free+c }:Sto)={ m1.s with ws:=pC,free:=m1.s.free+(1+fs.length+c) }:=by
    rw[<-e3,rq];rw[e2];simp only[Sto.mk.injEq];refine ⟨trivial,trivial,trivial,by omega,trivial⟩
   rw[bP,u1];simp only[zzD];rw[v1];simp only[zzP];exact zaS.ok ⟨v2,M1.half,M1.fuel,M1.next,M1.below,zoT M1.vi rfl⟩
 ·exact zaS.none _ _ _
theorem ztq{s:Sto}{fc:List Int}{h:List Nd}{fns:List Nat}(R:Rel s fc h st fns φ){lk lf:Nat}(hl:lk<=st.length)(kg:lf≠0)(bZ:lf<=1000000)(ew:s.free+1<=s.top):∃ s',s.leave lk lf=some s'/\Rel s' fc h (leave st lk lf) fns φ/\s'.free=s.free/\s'.top=s.top-1/\s'.half=s.half/\s'.ws.length=s.ws.length:=by
 have fg:=R.tp;have gS:=R.hi;have aN:(s.words s.top lk).length=lk:=by unfold Sto.words;rw[zzf,zzu];omega
 have aK:(Go.splice s.ws (s.top-1) (s.words s.top lk)).length=s.ws.length:=zzM _ _ _ (by rw[aN];omega);refine ⟨{ s with top:=s.top-1,ws:=(Go.splice s.ws (s.top-1) (s.words s.top lk)).set (s.top-1+lk) (Mk 2 lf) },?_,?_,rfl,rfl,rfl,by simp only[zy6];exact aK⟩
 ·unfold Sto.leave;rw[if_pos ⟨by omega,by omega,bZ⟩]
 ·have aY:∀ j,((Go.splice s.ws (s.top-1) (s.words s.top lk)).set (s.top-1+lk) (Mk 2 lf))[j]?=if j=s.top-1+lk then some (Mk 2 lf) else if s.top-1<=j/\j<s.top-1+lk then s.ws[j+1]? else s.ws[j]?:=by
   intro j;rw[zyV,aK];by_cases h1:s.top-1+lk=j
   ·rw[if_pos h1,if_pos (by omega),if_pos h1.symm]
   ·have iB:¬ j=s.top-1+lk:=fun e=>h1 e.symm
    rw[if_neg h1,if_neg iB,zbu _ _ _ _ (by rw[aN];omega),aN];by_cases h2:j<s.top-1
    ·rw[if_pos h2,if_neg (by omega)]
    ·rw[if_neg h2];by_cases h3:j<s.top-1+lk
     ·rw[if_pos h3,if_pos (by omega)];unfold Sto.words;rw[zzy,if_pos (by omega),zzx];congr 1;omega
     ·rw[if_neg h3,if_neg (by omega)]
  unfold leave;rw[if_neg kg];refine R.zeV (by rw[zy6];exact aK) (fun j h1 h2=>by rw[aY,if_neg (by omega),if_neg (by omega)]) (by omega) (by simp;omega) (fun i w hw=>?_);rw[aY];rw[zzk,zzj,zzf,zzV (by omega)]at hw;split at hw
  ·next br=>
   rw[zzy,if_pos br]at hw;obtain ⟨y,y1,y2⟩:=R.stk i w hw;exact ⟨y,by rw[if_neg (by omega),if_neg (by omega)];exact y1,y2⟩
  ·next br=>
   by_cases h0:i=st.length-lk
   ·subst h0;simp at hw;subst hw;exact ⟨Mk 2 lf,by rw[if_pos (by omega)],rfl⟩
   ·rw[List.singleton_append,show i-(st.length-lk)=(i-(st.length-lk)-1)+1 by omega,zzT,zzx]at hw;have aj:=(zyL.1 hw).1;obtain ⟨y,y1,y2⟩:=R.stk _ w hw;refine ⟨y,?_,y2⟩;rw[if_neg (by omega),if_pos (by omega),<-y1];congr 1;omega
theorem zvi(M:MR sl hf m A φ){n lk lf:Nat}{fs:List Nat}(ht:A.st.getLast?=some (.ad a))(hn:A.h[a]?=some (.clo b fs))(_hb:sl[b]?=some n):zaS sl hf (m.call lk lf) (A.call hf b lk lf fs):=by
 have bU:=M.rel.ok a _ hn;obtain ⟨p,p1,p2,p3,p4,p5,p6⟩:=M.rel.zdB ht hn rfl;have hc:cnt (hdr (.clo b fs))=fs.length:=zi9 bU rfl;unfold MSt.call;rw[p2];simp only;rw[hc];refine zcS M (fun m1 φ1 M1 hr ho=>?_);split
 ·next hg=>
  obtain ⟨q,q1,q2,q3,q4,q5,q6⟩:=M1.rel.zdB ht hn rfl;have cT:sz (.clo b fs)=1+fs.length:=rfl;have gS:=M1.rel.hi;have iY:=M1.rel.ft;have yd:=M1.rel.tp;obtain ⟨u1,u2⟩:=zhQ M1.rel (c:=2) (by omega);have hcut:A.st.take (A.st.length-2)=zcE A.st 2:=rfl;rw[hcut]at u2;have hL:∃ s3,(if lf=0 then some { m1.s with top:=m1.s.top+2 } else Sto.leave { m1.s with top:=m1.s.top+2 } lk lf)=some s3/\Rel s3 m1.fns A.h (leave (zcE A.st 2) lk lf) A.fns φ1/\s3.free=m1.s.free/\m1.s.top<=s3.top/\s3.half=m1.s.half/\s3.ws.length=m1.s.ws.length:=by
   by_cases h0:lf=0
   ·rw[if_pos h0];refine ⟨_,rfl,?_,rfl,by simp only;omega,rfl,rfl⟩;unfold leave;rw[if_pos h0];exact u2
   ·rw[if_neg h0];obtain ⟨s3,l1,l2,l3,l4,l5,l6⟩:=ztq u2 (lk:=lk) (lf:=lf) (by rw[zdF];omega) h0 hg.2 (by simp only;omega);exact ⟨s3,l1,l2,l3,by rw[l4];simp only;omega,l5,l6⟩
  obtain ⟨s3,l1,l2,l3,l4,l5,l6⟩:=hL;obtain ⟨a1,a2,a3⟩:=l2.zi2 q1 hn rfl;have EA:=l2.hi;have Ev:=l2.ft;have Fg:=l2.tp;obtain ⟨f1,f2⟩:=a3.fields (by simp only[zdd];omega);simp only[zdd]at f1 f2;obtain ⟨v1,v2⟩:=zgq l2 (fs:=fs) f1 (by rw[f1];omega) f2;obtain ⟨s4,e4⟩:∃ s4:Sto,s4={ s3 with top:=s3.top-(s3.words (q+1) fs.length).length,ws:=Go.splice s3.ws (s3.top-(s3.words (q+1) fs.length).length) (s3.words (q+1) fs.length) }:=⟨_,rfl⟩;rw[<-e4]at v1 v2;have h4:s4.half=m1.s.half:=by rw[e4];exact l5
  obtain ⟨b1,b2,b3⟩:=v2.zi2 q1 hn rfl;unfold MSt.called;rw[q2];simp only;rw[u1];simp only;rw[l1];simp only;rw[a3.head bU rfl];simp only;rw[hc,if_neg (by omega),v1];simp only;rw[b3.head bU rfl];simp only[zzP];refine zaS.ok (φ:=φ1) ⟨v2,h4.trans M1.half,M1.fuel,?_,M1.below,M1.vi⟩;simp only[hdr];exact zdE (by omega) bU.2
 ·exact zaS.none _ _ _
theorem zpc(M:MR sl hf m A φ)(c:Nat){r:Except Nat (Bool × Ma)}(h:A.za5 hf sl c=some r):
  match r with
  |.error k=>m.za5 sl c=some (.error k)
  |.ok q=>∃ m' φ',m.za5 sl c=some (.ok (q.1,m'))/\MR sl hf m' q.2 φ':=by
 unfold Ma.za5 at h;cases ht:A.st.getLast? with
 |none=>rw[ht]at h;simp at h
 |some w=>
  rw[ht]at h;cases w with
  |mk _ _=>simp at h
  |ad a=>
   simp only at h;cases hn:A.h[a]? with
   |none=>rw[hn]at h;simp at h
   |some nd=>
    rw[hn]at h;have hl:∀ nd',A.h[a]?=some nd'->zaV nd'=false->∃ p,m.s.nodeAt 0=some (p,hdr nd')/\m.s.head p=some (hdr nd')/\m.s.ws[p]?=some (hdr nd')/\0<=hdr nd'/\hdr nd' < 9223372036854775808:=fun nd' gw hf'=>by
     obtain ⟨p,p1,p2,p3,p4,p5,p6⟩:=M.rel.zdB ht gw hf';obtain ⟨r1,r2⟩:=zde (M.rel.ok a _ gw);exact ⟨p,p2,p6.head (M.rel.ok a _ gw) rfl,p6.1,r1,r2⟩
    cases nd with
    |num v=>
     simp only at h;cases h;obtain ⟨p,h1,h2,h3,h4,h5⟩:=hl _ hn rfl;simp only;unfold MSt.za5;rw[h1];simp only;unfold Sto.zfJ;rw[h3];simp only;rw[if_neg (by omega),if_neg (by simp[hdr])];simp
    |data t fs=>
     simp only at h;cases h;obtain ⟨p,h1,h2,h3,h4,h5⟩:=hl _ hn rfl;simp only;unfold MSt.za5;rw[h1];simp only;unfold Sto.zfJ;rw[h3];simp only;rw[if_neg (by omega),if_neg (by simp only[hdr];rw[zbx (by omega)];omega)];simp
    |clo b fs=>
     simp only at h;obtain ⟨p,h1,h2,h3,h4,h5⟩:=hl _ hn rfl;have bU:=M.rel.ok a _ hn;cases hb:sl[b]? with
     |none=>rw[hb]at h;simp at h
     |some n=>
      rw[hb]at h;simp only at h;split at h
      ·cases h
      ·next aj=>
       have mO:m.s.zfJ sl p=some ((n:Int)-fs.length):=by
        unfold Sto.zfJ;rw[h3];simp only;rw[if_neg (by omega),if_pos (by simp only[hdr];exact zbx (by omega))];have hw:hdr (.clo b fs)/65536=(b:Int):=by simp only[hdr];exact zdE (by omega) bU.2
        have iG:hdr (.clo b fs)/16%4096=(fs.length:Int):=by simp only[hdr];exact zeb (by omega) bU.2
        rw[hw,zy2,hb,iG]
       have Fj:m.za5 sl c=(if (c:Int)<(n:Int)-fs.length then (match m.extend c with|none=>none|some (.error k)=>some (.error k)|some (.ok m')=>some (.ok (false,m'))) else if 2000000<c then none else (match m.call (n-fs.length) (c-(n-fs.length)) with|none=>none|some (.error k)=>some (.error k)|some (.ok m')=>some (.ok (true,m')))):=by
        unfold MSt.za5;rw[h1];simp only;rw[mO];simp only;rw[if_neg (by omega),show ((n:Int)-fs.length).toNat=n-fs.length by omega];rfl
       rw[Fj];split at h
       ·next aN=>
        rw[if_pos (by omega)];cases he:A.extend hf b c fs with
        |none=>rw[he]at h;simp at h
        |some q=>
         rw[he]at h;have hs:=zrs M (c:=c) ht hn hb q he;cases q with
         |error k=>simp only at h hs;cases h;simp only;rw[hs]
         |ok A'=>
          simp only at h hs;cases h;obtain ⟨m',φ',g1,g2⟩:=hs;simp only;rw[g1];exact ⟨m',φ',rfl,g2⟩
       ·next aN=>
        rw[if_neg (by omega)];split at h
        ·cases h
        ·next DI=>
         rw[if_neg DI];cases he:A.call hf b (n-fs.length) (c-(n-fs.length)) fs with
         |none=>rw[he]at h;simp at h
         |some q=>
          rw[he]at h;have hs:=zvi M (lk:=n-fs.length) (lf:=c-(n-fs.length)) ht hn hb q he;cases q with
          |error k=>simp only at h hs;cases h;simp only;rw[hs]
          |ok A'=>
           simp only at h hs;cases h;obtain ⟨m',φ',g1,g2⟩:=hs;simp only;rw[g1];exact ⟨m',φ',rfl,g2⟩
    |busy=>simp at h
    |fwd b=>simp at h
variable {sl:List Nat} {hf:Nat} {m:MSt} {A:Ma} {φ:Nat->Option Nat}
theorem zne{k:Nat}(hk:k<4)(hb:b<1000000000):waits (Mk k b)=some (k,b):=by
 unfold waits Mk;rw[if_pos (by omega)];congr 2
 ·omega
 ·omega
theorem zsi(M:MR sl hf m A φ){v j0:Nat}{nv:Nd}(h3:3<=A.st.length)(hv:A.st[A.st.length-1]?=some (.ad v))(_hk:A.st[A.st.length-2]?=some (.mk 0 j0))(hc:A.st[A.st.length-3]?=some (.ad c))(hb:A.h[c]?=some .busy)(ay:A.h[v]?=some nv)(ed:val sl nv):
  ∃ s',m.s.update=some s'/\MR sl hf { m with s:=s' } { A with h:=A.h.set c (.fwd v),st:=zcE A.st 3++[.ad v] } φ:=by
 have AU:=zxZ ed;have AT:v≠c:=fun e=>by subst e;rw[hb]at ay;cases ay;exact ed
 have fg:=M.rel.tp;have gS:=M.rel.hi;have iY:=M.rel.ft;have eE:=M.rel.wl;obtain ⟨w,x,w1,w2,w3⟩:=M.rel.word (d:=0) (by omega);rw[zAl,hv]at w1;cases w1;rw[zzO]at w2;obtain ⟨w,y,y1,y2,y3⟩:=M.rel.word (d:=2) (by omega);rw[show A.st.length-1-2=A.st.length-3 by omega,hc]at y1;cases y1;obtain ⟨pv,rfl,v2,v3,v4,v5⟩:=M.rel.zfo w3 ay AU;obtain ⟨pc,rfl,c2,c3,c4,c5⟩:=M.rel.zfo y3 hb rfl;have hs:=zhd nv;have mT:sz .busy=1:=rfl;rw[mT]at c4;refine ⟨{ m.s with ws:=(m.s.ws.set pc (Hd 4 pv 0)).set (m.s.top+2) pv,top:=m.s.top+2 },?_,?_⟩
 ·unfold Sto.update;rw[w2];simp only;rw[y2];simp only;rw[if_pos ⟨by omega,by omega,by omega,by omega⟩,zy2,zy2]
 ·have mR:∀ (x' b':Nat),A.h[x']?=some (.fwd b')->b'≠c:=fun x' b' hx e=>by
   obtain ⟨n',g1,g2⟩:=M.vi x' b' hx;rw[e,hb]at g1;cases g1;exact g2
  have R1:=M.rel.zxM (ws':=m.s.ws.set pc (Hd 4 pv 0)) (nd':=.fwd v) c2 hb rfl trivial (by simp[sz]) (by simp) (fun j hj=>by rw[zyV,if_neg (by simp only[sz]at hj;omega)])
   (.inl ⟨v,pv,rfl,v2,by rw[zyV,if_pos rfl,if_pos (by omega)]⟩) (fun _=>mR) (fun b' e=>by cases e;exact ⟨AT,nv,ay,AU⟩)
  have dC:∀ (c' b':Nat),A.h[c']?=some (.fwd b')->(A.h.set c (.fwd v))[c']?=some (.fwd b'):=zqC hb rfl;have R2:=R1.zeV (ws':=(m.s.ws.set pc (Hd 4 pv 0)).set (m.s.top+2) pv) (top':=m.s.top+2) (st':=zcE A.st 3++[.ad v]) (by simp) (fun j h1 h2=>by simp only at h1 h2 ⊢;rw[zyV,if_neg (by omega)]) (by simp only;omega) (by simp only[zyT,zy0,zdF];omega) (fun i w hw=>by
   simp only;rw[zzj,zdF]at hw;split at hw
   ·next br=>
    have fY:=zmd hw;obtain ⟨z,z1,z2⟩:=R1.stk i w fY;simp only at z1;exact ⟨z,by rw[zyV,if_neg (by omega)];exact z1,z2⟩
   ·next br=>
    have:=(zyL.1 hw).1;simp at this;have h1:i-(A.st.length-3)=0:=by omega
    rw[h1]at hw;simp at hw;subst hw;refine ⟨pv,by rw[show m.s.low+m.s.half-1-i=m.s.top+2 by omega,zyV,if_pos rfl,if_pos (by rw[zy6];omega)],⟨pv,rfl,.inl v2⟩⟩)
  refine ⟨R2,M.half,M.fuel,M.next,M.below,fun a b oQ=>?_⟩;have aN:=(zyL.1 hb).1;simp only at oQ ⊢;rw[zyV]at oQ;by_cases e:c=a
  ·rw[if_pos e,if_pos aN]at oQ;cases oQ;exact ⟨nv,by rw[zyV,if_neg (fun e=>AT e.symm)];exact ay,ed⟩
  ·rw[if_neg e]at oQ;obtain ⟨n',g1,g2⟩:=M.vi a b oQ;exact ⟨n',by rw[zyV,if_neg (fun e=>mR a b oQ e.symm)];exact g1,g2⟩
theorem zdT:∀ (g:Nat) (m:MSt) (A:Ma) (φ:Nat->Option Nat),MR sl hf m A φ->zaS sl hf (m.za1 sl g) (A.za1 hf sl g)
 |0,_,_,_,_=>zaS.none _ _ _
 |g+1,m,A,φ,M=>by
  have fg:=M.rel.tp;have iY:=M.rel.ft;have uM:=M.rel.lf;have eE:=M.rel.wl;have gS:=M.rel.hi;rw[Ma.za1,MSt.za1];by_cases h1:A.st.length<=1
  ·rw[if_pos h1,if_pos (by omega)];exact zaS.ok ⟨M.rel,M.half,M.fuel,rfl,M.below,M.vi⟩
  ·rw[if_neg h1,if_neg (by omega)];obtain ⟨w,x,w1,w2,w3⟩:=M.rel.word (d:=1) (by omega);rw[show A.st.length-1-1=A.st.length-2 by omega]at w1;rw[w1];cases w with
   |ad a=>exact zaS.none _ _ _
   |mk k b=>
    have hx:x=Mk k b:=w3;simp only;by_cases iC:1000000000<=b
    ·rw[if_pos iC];exact zaS.none _ _ _
    ·rw[if_neg iC,w2,hx];simp only;by_cases dF:k=0
     ·subst dF;rw[if_pos rfl,zne (by omega) (by omega)];simp only;rw[if_pos trivial];cases hv:A.st[A.st.length-1]? with
      |none=>exact zaS.none _ _ _
      |some wv=>
       cases wv with
       |mk _ _=>exact zaS.none _ _ _
       |ad v=>
        simp only;by_cases h3:3<=A.st.length
        ·rw[if_pos h3];cases hc:A.st[A.st.length-3]? with
         |none=>exact zaS.none _ _ _
         |some wc=>
          cases wc with
          |mk _ _=>exact zaS.none _ _ _
          |ad c=>
           simp only;have go:∀ nv,A.h[c]?=some .busy->A.h[v]?=some nv->val sl nv->zaS sl hf (match m.s.update with|none=>none|some s'=>MSt.za1 sl g { m with s:=s' }) (Ma.za1 hf sl g { A with h:=A.h.set c (.fwd v),st:=zcE A.st 3++[.ad v] }):=fun nv hb ay ed=>by
            obtain ⟨s',u1,u2⟩:=zsi M h3 hv w1 hc hb ay ed;rw[u1];exact zdT g _ _ φ u2
           cases iG:A.h[c]? with
           |none=>exact zaS.none _ _ _
           |some nc=>
            cases hvn:A.h[v]? with
            |none=>cases nc <;> exact zaS.none _ _ _
            |some nv=>
             cases nc with
             |busy=>
              cases nv with
              |num z=>exact go _ iG hvn trivial
              |data t fs=>exact go _ iG hvn trivial
              |clo b' fs=>
               simp only;by_cases ed:∃ n,sl[b']?=some n/\fs.length<n
               ·rw[if_pos ed];exact go _ iG hvn ed
               ·rw[if_neg ed];exact zaS.none _ _ _
              |busy=>exact zaS.none _ _ _
              |fwd _=>exact zaS.none _ _ _
             |num _=>exact zaS.none _ _ _
             |data _ _=>exact zaS.none _ _ _
             |clo _ _=>exact zaS.none _ _ _
             |fwd _=>exact zaS.none _ _ _
        ·rw[if_neg h3];exact zaS.none _ _ _
     ·rw[if_neg dF];by_cases cK:k=1
      ·subst cK;rw[if_pos rfl,zne (by omega) (by omega)];simp only;rw[if_neg (by omega),if_pos trivial];cases hv:A.st[A.st.length-1]? with
       |none=>exact zaS.none _ _ _
       |some wv=>
        cases wv with
        |mk _ _=>exact zaS.none _ _ _
        |ad v=>
         obtain ⟨w,y,y1,y2,y3⟩:=M.rel.word (d:=0) (by omega);rw[zAl,hv]at y1;cases y1;rw[zzO]at y2;simp only;rw[y2];simp only;have R2:=M.rel.zeV (ws':=m.s.ws.set (m.s.top+1) y) (top':=m.s.top+1) (st':=zcE A.st 2++[.ad v]) (by simp) (fun j h1 h2=>by rw[zyV,if_neg (by omega)]) (by omega) (by simp only[zyT,zy0,zdF];omega) (fun i w hw=>by
          rw[zzj,zdF]at hw;split at hw
          ·next br=>
           obtain ⟨z,z1,z2⟩:=M.rel.stk i w (zmd hw);exact ⟨z,by rw[zyV,if_neg (by omega)];exact z1,z2⟩
          ·next br=>
           have:=(zyL.1 hw).1;simp at this;have h1:i-(A.st.length-2)=0:=by omega
           rw[h1]at hw;simp at hw;subst hw;exact ⟨y,by rw[show m.s.low+m.s.half-1-i=m.s.top+1 by omega,zyV,if_pos rfl,if_pos (by omega)],y3⟩)
         have dW:Sto.pop { m.s with ws:=m.s.ws.set (m.s.top+1) y } 1=some { m.s with ws:=m.s.ws.set (m.s.top+1) y,top:=m.s.top+1 }:=by
          unfold Sto.pop;rw[if_pos (by simp only;omega)]
         rw[dW];exact zaS.ok (φ:=φ) ⟨R2,M.half,M.fuel,rfl,M.below,M.vi⟩
      ·rw[if_neg cK];by_cases aG:k=2
       ·subst aG;rw[if_pos rfl,zne (by omega) (by omega)];simp only;rw[if_neg (by omega),if_neg (by omega),if_pos trivial];cases ha:A.za5 hf sl b with
        |none=>exact zaS.none _ _ _
        |some r=>
         have hs:=zpc M b ha;cases r with
         |error j=>
          simp only at hs;rw[hs];exact zaS.error _ _ _
         |ok q=>
          simp only at hs;obtain ⟨m',φ',g1,g2⟩:=hs;rw[g1];simp only;by_cases hq:q.1=true
          ·rw[if_pos hq,if_pos hq];exact zaS.ok g2
          ·rw[if_neg hq,if_neg hq];exact zdT g _ _ _ g2
       ·rw[if_neg aG];exact zaS.none _ _ _
theorem zlM{s:Sto}{fc:List Int}{h:List Nd}{fns:List Nat}(R:Rel s fc h st fns φ){x:Int}{w:Wd}(h0:0<st.length)(hw:RW φ h x w):Rel { s with ws:=s.ws.set s.top x } fc h (zcE st 1++[w]) fns φ:=by
 have fg:=R.tp;have gS:=R.hi;have iY:=R.ft;have:=R.zeV (ws':=s.ws.set s.top x) (top':=s.top) (st':=zcE st 1++[w]) (by simp) (fun j h1 h2=>by rw[zyV,if_neg (by omega)]) iY (by simp only[zyT,zy0,zdF];omega) (fun i w' fY=>by
  rw[zzj,zdF]at fY;split at fY
  ·next br=>
   obtain ⟨z,z1,z2⟩:=R.stk i w' (zmd fY);exact ⟨z,by rw[zyV,if_neg (by omega)];exact z1,z2⟩
  ·next br=>
   have:=(zyL.1 fY).1;simp at this;have h1:i-(st.length-1)=0:=by omega
   rw[h1]at fY;simp at fY;subst fY;exact ⟨x,by rw[show s.low+s.half-1-i=s.top by omega,zyV,if_pos rfl,if_pos (by omega)],hw⟩)
 exact this
theorem zpr(M:MR sl hf m A φ){p:Nat}{nd:Nd}(ht:A.st.getLast?=some (.ad a))(hn:A.h[a]?=some nd)(gr:zaV nd=false)(hp:φ a=some p):
  zaS sl hf (m.zcy sl p) (match nd with
   |.busy=>some (.error 5)
   |.num _=>A.za1 hf sl (A.st.length+1)
   |.data _ _=>A.za1 hf sl (A.st.length+1)
   |.clo b fs=>(match sl[b]? with|none=>none|some n=>if n=fs.length then A.zdy hf a b fs else if fs.length<n then A.za1 hf sl (A.st.length+1) else none)
   |_=>none):=by
 have bU:=M.rel.ok a _ hn;obtain ⟨q1,q2,q3⟩:=M.rel.zi2 hp hn gr;obtain ⟨r1,r2⟩:=zde bU;have fg:=M.rel.tp;have hh:m.ztg=A.st.length+1:=by unfold MSt.ztg;omega
 unfold MSt.zcy;rw[q3.head bU rfl];simp only;cases nd with
 |num v=>
  rw[if_neg (by simp[hdr])];unfold Sto.zfJ;rw[q3.1];simp only;rw[if_neg (by omega),if_neg (by simp[hdr])];simp only;rw[if_neg (by omega),hh];exact zdT _ _ _ _ M
 |data t fs=>
  rw[if_neg (by simp only[hdr];rw[zbx (by omega)];omega)];unfold Sto.zfJ;rw[q3.1];simp only;rw[if_neg (by omega),if_neg (by simp only[hdr];rw[zbx (by omega)];omega)];simp only;rw[if_neg (by omega),hh];exact zdT _ _ _ _ M
 |busy=>
  rw[if_pos (by simp only[hdr];exact zbx (by omega))];exact zaS.error _ _ _
 |fwd b=>simp[zaV]at gr
 |clo b fs=>
  simp only;cases hb:sl[b]? with
  |none=>exact zaS.none _ _ _
  |some n=>
   simp only;have mO:m.s.zfJ sl p=some ((n:Int)-fs.length):=by
    unfold Sto.zfJ;rw[q3.1];simp only;rw[if_neg (by omega),if_pos (by simp only[hdr];exact zbx (by omega))];have hw:hdr (.clo b fs)/65536=(b:Int):=by simp only[hdr];exact zdE (by omega) bU.2
    have iG:hdr (.clo b fs)/16%4096=(fs.length:Int):=by simp only[hdr];exact zeb (by omega) bU.2
    rw[hw,zy2,hb,iG]
   rw[if_neg (by simp only[hdr];rw[zbx (by omega)];omega),mO];simp only;by_cases ev:n=fs.length
   ·rw[if_pos (by omega),if_pos ev];exact zsF M ht hn hb ev
   ·rw[if_neg (by omega),if_neg ev];by_cases aj:fs.length<n
    ·rw[if_pos aj,hh];exact zdT _ _ _ _ M
    ·rw[if_neg aj];exact zaS.none _ _ _
theorem znN(M:MR sl hf m A φ):zaS sl hf (m.enter sl) (A.enter hf sl):=by
 unfold Ma.enter;cases ht:A.st.getLast? with
 |none=>exact zaS.none _ _ _
 |some w=>
  cases w with
  |mk _ _=>exact zaS.none _ _ _
  |ad a=>
   obtain ⟨g0,g1⟩:=zgn ht;obtain ⟨w,x,w1,w2,w3⟩:=M.rel.word (d:=0) g0;rw[zAl,g1]at w1;cases w1;rw[zzO]at w2;have fg:=M.rel.tp;have gS:=M.rel.hi;have eE:=M.rel.wl;have sD:(zcE A.st 1++[Wd.ad (can A.h a)]).length=A.st.length:=by simp only[zyT,zy0,zdF];omega
   have tr:(zcE A.st 1++[Wd.ad (can A.h a)]).getLast?=some (.ad (can A.h a)):=by simp
   have key:∃ nd p m',A.h[can A.h a]?=some nd/\zaV nd=false/\φ (can A.h a)=some p/\MR sl hf m' { A with st:=zcE A.st 1++[.ad (can A.h a)] } φ/\m.enter sl=m'.zcy sl p:=by
    obtain ⟨q,rfl,hq⟩:=w3;have plain:∀ (c:Nat) (nd:Nd),φ c=some q->A.h[c]?=some nd->zaV nd=false->can A.h a=c->∃ nd p m',A.h[can A.h a]?=some nd/\zaV nd=false/\φ (can A.h a)=some p/\MR sl hf m' { A with st:=zcE A.st 1++[.ad (can A.h a)] } φ/\m.enter sl=m'.zcy sl p:=fun c nd hc hn gr jk=>by
     obtain ⟨b1,b2,b3⟩:=M.rel.zi2 hc hn gr;have bU:=M.rel.ok c nd hn;have R2:=zlM M.rel (x:=q) (w:=.ad (can A.h a)) g0 ⟨q,rfl,.inl (by rw[jk];exact hc)⟩;rw[zqR w2]at R2;refine ⟨nd,q,m,by rw[jk];exact hn,gr,by rw[jk];exact hc,⟨R2,M.half,M.fuel,M.next,M.below,M.vi⟩,?_⟩;unfold MSt.enter Sto.nodeAt;rw[zzO,w2];simp only;rw[if_neg (by omega),zy2,b3.head bU rfl];simp only[zzP];rw[if_neg (zmn gr).1]
    rcases hq with hq|⟨b,hb,hq⟩
    ·obtain ⟨nd,n1,n2,n3,n4⟩:=M.rel.nod a q hq;rcases n4 with ⟨b,p',rfl,n5,n6⟩|⟨n5,_⟩
     ·obtain ⟨nb,iJ,jZ⟩:=M.rel.fw a b n1;obtain ⟨FJ,c1,c2,c3,_⟩:=M.rel.nod b p' n5;have ak:=M.rel.ft;have hk:Hd 4 p' 0%16=4:=zbx (by omega);have hw:Hd 4 p' 0/65536=(p':Int):=zdE (by omega) (by omega);have jk:can A.h a=b:=zgl n1;have R2:=zlM M.rel (x:=p') (w:=.ad (can A.h a)) g0 ⟨p',rfl,.inl (by rw[jk];exact n5)⟩;refine ⟨nb,p',{ m with s:={ m.s with ws:=m.s.ws.set m.s.top p' } },by rw[jk];exact iJ,jZ,by rw[jk];exact n5,⟨R2,M.half,M.fuel,M.next,M.below,M.vi⟩,?_⟩;have eB:=zhd FJ;unfold MSt.enter Sto.nodeAt Sto.head;rw[zzO,w2];simp only;rw[if_neg (by omega),zy2,n6];simp only;rw[if_neg (by unfold Hd;omega)];simp only[zzP];rw[if_pos hk,if_neg (by omega),hw,zy2]
     ·exact plain a nd hq n1 n5 (zdc n1 n5)
    ·obtain ⟨nb,iJ,jZ⟩:=M.rel.fw a b hb;exact plain b nb hq iJ jZ (zgl hb)
   obtain ⟨nd,p,m',k1,k2,k3,k4,k5⟩:=key;rw[k5];have hs:=zpr k4 tr k1 k2 k3;rw[sD]at hs;simp only;rw[k1];cases nd <;> first|exact hs|simp[zaV]at k2
theorem zwo(M:MR sl hf m A φ)(i:Ins):zaS sl hf (m.step sl i) (A.step hf sl i):=by
 cases i with
 |push k=>exact zoa M k
 |zcW f=>exact zrP M f
 |num v=>exact zb2 M v
 |pack t c=>exact ztM M t c
 |close b c=>exact ztL M b c
 |hold b c=>exact zvD M b c
 |fill k c=>exact zvw M k c
 |wait b=>exact zij M 1 b
 |zbF c=>exact zij M 2 c
 |zci c=>exact zut M c
 |zbX=>exact zpD M
 |comp sg=>exact zpo M sg
 |enter=>exact znN M
 |jump b=>exact zaS.ok ⟨M.rel,M.half,M.fuel,rfl,M.below,M.vi⟩
 |choose zao=>exact zrg M zao
theorem zlK:∀ (l:List Ins) (m:MSt) (A:Ma) (φ:Nat->Option Nat),MR sl hf m A φ->zaS sl hf (m.zbb sl l) (A.zbb hf sl l)
 |[],m,A,φ,M=>zaS.ok M
 |i::l,m,A,φ,M=>by
  rw[Ma.zbb,MSt.zbb];unfold MSt.zsJ;rw[M.fuel];by_cases h0:A.fuel=0
  ·rw[if_pos h0,if_pos h0];exact zaS.error _ _ _
  ·rw[if_neg h0,if_neg h0];simp only;have M1:MR sl hf { m with o:={ m.o with fuel:=A.fuel-1 } } { A with fuel:=A.fuel-1 } φ:=⟨M.rel,M.half,rfl,M.next,M.below,M.vi⟩;cases hs:Ma.step hf sl { A with fuel:=A.fuel-1 } i with
   |none=>exact zaS.none _ _ _
   |some r=>
    have hr:=zwo M1 i r hs;cases r with
    |error k=>simp only at hr;rw[hr];exact zaS.error _ _ _
    |ok A2=>
     simp only at hr;obtain ⟨m2,φ2,g1,g2⟩:=hr;rw[g1];exact zlK l m2 A2 φ2 g2
theorem zq3(cd:List (Nat × List Ins)):∀ (g:Nat) (m:MSt) (A:Ma) (φ:Nat->Option Nat),MR (cd.map Prod.fst) hf m A φ->zaS (cd.map Prod.fst) hf (m.work cd g) (A.work hf cd g)
 |0,_,_,_,_=>zaS.none _ _ _
 |g+1,m,A,φ,M=>by
  rw[Ma.work,MSt.work,M.next];by_cases h1:A.next=-1
  ·rw[if_pos h1,if_pos h1];exact zaS.ok M
  ·rw[if_neg h1,if_neg h1];by_cases h2:A.next<0
   ·rw[if_pos h2,if_pos h2];exact zaS.none _ _ _
   ·rw[if_neg h2,if_neg h2];cases hc:cd[A.next.toNat]? with
    |none=>exact zaS.none _ _ _
    |some b=>
     obtain ⟨n,is⟩:=b;simp only;have fg:=M.rel.tp;have M1:MR (cd.map Prod.fst) hf { m with o:={ m.o with below:=(m.s.low:Int)+(m.s.half:Int)-(m.s.top:Int)-(n:Int) } } { A with below:=(A.st.length:Int)-n } φ:=⟨M.rel,M.half,M.fuel,M.next,by simp only;omega,M.vi⟩;cases hs:Ma.zbb hf (cd.map Prod.fst) is { A with below:=(A.st.length:Int)-n } with
     |none=>exact zaS.none _ _ _
     |some r=>
      have hr:=zlK is _ _ φ M1 r hs;cases r with
      |error k=>simp only at hr;rw[hr];exact zaS.error _ _ _
      |ok A2=>
       simp only at hr;obtain ⟨m2,φ2,g1,g2⟩:=hr;rw[g1];exact zq3 cd g m2 A2 φ2 g2
theorem zly:∀ (k i:Nat) (m:MSt) (A:Ma) (φ:Nat->Option Nat),MR sl hf m A φ->zaS sl hf (m.zbm i k) (A.zbm hf i k)
 |0,_,m,A,φ,M=>zaS.ok M
 |k+1,i,m,A,φ,M=>by
  rw[MSt.zbm,Ma.zbm];by_cases hi:i<=1000000000
  ·rw[if_pos hi];refine zcS M (fun m1 φ1 M1 hr ho=>?_);obtain ⟨n1,n2⟩:=zmy M1.rel (nd:=.clo i []) (xs:=[]) ⟨hi,by simp⟩ rfl (by simp[sz];omega) (by simp[sz]) (fun v hv=>by cases hv) (fun j f hf=>by simp[zdd]at hf);have hd:hdr (.clo i [])=Hd 2 i 0:=rfl;rw[hd]at n1 n2;rw[n1];simp only;refine zly k (i+1) _ _ (grow φ1 A.h.length m1.s.free) ⟨?_,M1.half,M1.fuel,M1.next,M1.below,zoT M1.vi rfl⟩;refine ⟨n2.low,n2.len,n2.wl,n2.lf,n2.ft,n2.tp,n2.stk,by simp[n2.fl],fun j a ha=>?_,n2.nod,n2.dis,n2.ok,n2.fw⟩;simp only at ha ⊢;rw[zzj]at ha;split at ha
   ·next gT=>
    obtain ⟨x,x1,x2⟩:=n2.fn j a ha;exact ⟨x,by rw[zzc (by have:=n2.fl;omega)];exact x1,x2⟩
   ·next gT=>
    have:=(zyL.1 ha).1;simp at this;have h1:j-A.fns.length=0:=by omega
    rw[h1]at ha;simp at ha;subst ha;have bZ:=n2.fl;have hj:j=m1.fns.length:=by omega
    exact ⟨m1.s.free,by rw[hj];simp,⟨m1.s.free,rfl,.inl (by simp[grow])⟩⟩
  ·rw[if_neg hi];exact zaS.none _ _ _
theorem zux(M:MR sl hf m A φ){nf main:Nat}(h1:m.o.nf=nf)(h2:m.o.main=main):zaS sl hf (m.start sl) (A.start hf sl nf main):=by
 unfold MSt.start Ma.start;rw[h1,zy2];cases hl:A.zbm hf 0 nf with
 |none=>exact zaS.none _ _ _
 |some r=>
  have hr:=zly nf 0 m A φ M r hl;cases r with
  |error k=>simp only at hr;rw[hr];exact zaS.error _ _ _
  |ok A1=>
   simp only at hr;obtain ⟨m1,φ1,g1,g2⟩:=hr;rw[g1];simp only;have ho:m1.o.main=main:=by
    have:∀ (k i:Nat) (m m1:MSt),m.zbm i k=some (.ok m1)->m1.o=m.o:=by
     intro k
     induction k with
     |zero=>intro i m m1 h;simp[MSt.zbm]at h;rw[h]
     |succ k ih=>
      intro i m m1 h;rw[MSt.zbm]at h;unfold aft at h;cases hn:m.zdI 1 with
      |none=>rw[hn]at h;simp at h
      |some q=>
       rw[hn]at h;cases q with
       |error j=>simp at h
       |ok m2=>
        simp only at h;have jo:m2.o=m.o:=by
         unfold MSt.zdI at hn;split at hn
         ·cases hn;rfl
         ·split at hn
          ·cases hn
          ·split at hn
           ·simp at hn
           ·cases hn;rfl
        split at h
        ·cases h
        ·exact (ih _ _ _ h).trans jo
    rw[this nf 0 m m1 g1];exact h2
   refine zcS g2 (fun m2 φ2 M2 hr jb=>?_);have cL:m2.o.main=main:=by rw[jb];exact ho
   rw[cL,if_neg (by omega),zy2];cases hf':A1.fns[main]? with
   |none=>simp only[];exact zaS.none _ _ _
   |some a=>
    obtain ⟨x,x1,x2⟩:=M2.rel.fn main a hf';obtain ⟨p1,p2⟩:=zc5 M2.rel hr (w:=.ad a) x2;simp only[x1,p1];exact znN (m:={ m2 with s:={ m2.s with top:=m2.s.top-1,ws:=m2.s.ws.set (m2.s.top-1) x } }) (A:={ A1 with st:=A1.st++[.ad a] }) ⟨p2,M2.half,M2.fuel,M2.next,M2.below,M2.vi⟩
theorem zwu(M:MR sl hf m A φ){r:Int × Int × Int × Int}(h:A.told=some r):m.told=some r:=by
 unfold Ma.told at h;cases ht:A.st.getLast? with
 |none=>rw[ht]at h;simp at h
 |some w=>
  rw[ht]at h;cases w with
  |mk _ _=>simp at h
  |ad a=>
   simp only at h;cases hn:A.h[a]? with
   |none=>rw[hn]at h;simp at h
   |some nd=>
    rw[hn]at h;cases nd with
    |num v=>
     obtain ⟨p,p1,p2,p3,p4,p5,p6⟩:=M.rel.zdB ht hn rfl;cases h;unfold MSt.told;rw[p2];simp only;rw[if_pos (by simp[hdr]),p6.2.1 v rfl]
    |data t fs=>
     obtain ⟨p,p1,p2,p3,p4,p5,p6⟩:=M.rel.zdB ht hn rfl;have bU:=M.rel.ok a _ hn;cases h;unfold MSt.told;rw[p2];simp only;have hk:hdr (.data t fs)%16=1:=by simp only[hdr];exact zbx (by omega)
     rw[if_neg (by omega),if_pos hk];simp only[hdr];rw[zdE (by omega) bU.2,zeb (by omega) bU.2]
    |clo b fs=>
     obtain ⟨p,p1,p2,p3,p4,p5,p6⟩:=M.rel.zdB ht hn rfl;cases h;unfold MSt.told;rw[p2];simp only;have hk:hdr (.clo b fs)%16=2:=by simp only[hdr];exact zbx (by omega)
     rw[if_neg (by omega),if_neg (by omega)]
    |busy=>simp at h
    |fwd b=>simp at h
theorem zt2{pv:Value}{cd:List (Nat × List Ins)}{nf main words fuel g:Nat}{r:Int × Int × Int × Int}(hw:words<=1000000)(h:zwX (words/2) cd nf main fuel g=some r):runM pv cd nf main words fuel g=some r:=by
 have M0:MR (cd.map Prod.fst) (words/2) (MSt.new pv nf main words fuel) (Ma.new fuel) (fun _=>none):=by
  refine ⟨⟨.inl rfl,by simp only[MSt.new,zzz];omega,by simp only[MSt.new,zzz];exact hw,zyN _,by simp[MSt.new],by simp[MSt.new,Ma.new],by simp[Ma.new],rfl,by simp[Ma.new],by simp,by simp,by simp[Ma.new],by simp[Ma.new]⟩,rfl,rfl,rfl,rfl,by simp[Ma.new]⟩
 unfold zwX at h;unfold runM;cases hs:(Ma.new fuel).start (words/2) (cd.map Prod.fst) nf main with
 |none=>rw[hs]at h;simp at h
 |some q=>
  rw[hs]at h;have hq:=zux M0 (nf:=nf) (main:=main) rfl rfl q hs;cases q with
  |error k=>
   simp only at h hq;cases h;rw[hq]
  |ok A1=>
   simp only at h hq;obtain ⟨m1,φ1,g1,g2⟩:=hq;rw[g1];simp only;cases hw:Ma.work (words/2) cd g A1 with
   |none=>rw[hw]at h;simp at h
   |some q2=>
    rw[hw]at h;have bC:=zq3 cd g m1 A1 φ1 g2 q2 hw;cases q2 with
    |error k=>
     simp only at h bC;cases h;rw[bC]
    |ok A2=>
     simp only at h bC;obtain ⟨m2,φ2,k1,k2⟩:=bC;rw[k1];exact zwu k2 h
end Ab
end Go.Proofs.YtgahgkddaljmkaaGreatDoor
