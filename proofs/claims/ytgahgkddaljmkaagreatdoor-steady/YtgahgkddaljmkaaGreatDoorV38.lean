/- Gc11 .. Gc12 -/
import Derived.Test.YtgahgkddaljmkaaGreatDoorV37
import Derived.Test.YtgahgkddaljmkaaGreatDoorV1
set_option maxRecDepth 100000
set_option maxHeartbeats 4000000
namespace Go.Proofs.YtgahgkddaljmkaaGreatDoor
namespace Ab
variable {sl:List Nat} {hf:Nat} {m:MSt} {A:Ma} {φ:Nat->Option Nat}
variable {st:List Wd}
variable {c:Nat}
theorem jb5{i:Nat}{w:Wd}(h:(zcE st c)[i]?=some w):st[i]?=some w:=by
 unfold zcE at h;rw[zyq]at h;split at h
 ·exact h
 ·cases h
theorem jaG(st:List Wd)(c:Nat):(zcE st c).length=st.length-c:=by unfold zcE;rw[zyb];omega
variable {a b:Nat}
theorem jc7(M:MR sl hf m A φ){n:Nat}{fs:List Nat}(ht:A.st.getLast?=some (.ad a))(hn:A.h[a]?=some (.clo b fs))(_hb:sl[b]?=some n):zaR sl hf (m.extend c) (A.extend hf b c fs):=by
 have hok:=M.rel.ok a _ hn;obtain ⟨p,p1,p2,p3,p4,p5,p6⟩:=M.rel.jaL ht hn rfl;have hc:cnt (hdr (.clo b fs))=fs.length:=jbH hok rfl;unfold MSt.extend;rw[p2];simp only;rw[hc];refine jaE M (fun m1 φ1 M1 hr ho=>?_);split
 ·next hg=>
  cases htp:zlN (zcE A.st 2) c with
  |none=>exact zaR.none _ _ _
  |some gs=>
   obtain ⟨t1,t2,t3⟩:=jbA htp;rw[jaG]at t1;obtain ⟨q,q1,q2,q3,q4,q5,q6⟩:=M1.rel.jaL ht hn rfl;have hsz:sz (.clo b fs)=1+fs.length:=rfl;have hhi:=M1.rel.hi;have hft:=M1.rel.ft;have htop:=M1.rel.tp;obtain ⟨f1,f2⟩:=q6.fields (by simp only[zdm];omega);simp only[zdm]at f1 f2;have hw:hdr (.clo b fs)/65536=(b:Int):=by simp only[hdr];exact zdH (by omega) hok.2
   have hnode:m1.s.node (Hd 2 b (fs.length+c)) (m1.s.words (q+1) fs.length)=some { m1.s with free:=m1.s.free+1+fs.length,ws:=Go.splice (m1.s.ws.set m1.s.free (Hd 2 b (fs.length+c))) (m1.s.free+1) (m1.s.words (q+1) fs.length) }:=by
    unfold Sto.node;rw[f1,if_pos (by omega)]
   obtain ⟨s2,e2⟩:∃ s2:Sto,s2={ m1.s with free:=m1.s.free+1+fs.length,ws:=Go.splice (m1.s.ws.set m1.s.free (Hd 2 b (fs.length+c))) (m1.s.free+1) (m1.s.words (q+1) fs.length) }:=⟨_,rfl⟩;rw[<-e2]at hnode;have h2f:s2.free=m1.s.free+1+fs.length:=by rw[e2]
   have h2t:s2.top=m1.s.top:=by rw[e2]
   have h2l:s2.ws.length=m1.s.ws.length:=by rw[e2];simp only;rw[zyI _ _ _ (by rw[zx2,f1];omega),zx2]
   have hget2:∀ j,s2.ws[j]?=if j=m1.s.free then some (Hd 2 b (fs.length+c)) else if m1.s.free<j/\j<m1.s.free+1+fs.length then (m1.s.words (q+1) fs.length)[j-(m1.s.free+1)]? else m1.s.ws[j]?:=by
    intro j;rw[e2];simp only;rw[jaC _ _ _ _ (by rw[zx2,f1];omega),f1];by_cases h1:j=m1.s.free
    ·rw[if_pos (by omega),if_pos h1,h1,zxR,if_pos rfl,if_pos (by omega)]
    ·have hset:(m1.s.ws.set m1.s.free (Hd 2 b (fs.length+c)))[j]?=m1.s.ws[j]?:=by rw[zxR,if_neg (fun e=>h1 e.symm)]
     rw[if_neg h1];by_cases h2:j<m1.s.free+1
     ·rw[if_pos h2,if_neg (by omega),hset]
     ·rw[if_neg h2];by_cases h3:j<m1.s.free+1+fs.length
      ·rw[if_pos h3,if_pos (by omega)]
      ·rw[if_neg h3,if_neg (by omega),hset]
   have hwl:(s2.words (s2.top+2) c).length=c:=by unfold Sto.words;rw[zyb,zyp];omega
   have hwg:∀ i,i<c->(s2.words (s2.top+2) c)[i]?=m1.s.ws[m1.s.top+(2+i)]?:=fun i hi=>by
    unfold Sto.words;rw[zyq,if_pos hi,zyr,h2t,hget2,if_neg (by omega),if_neg (by omega),show m1.s.top+2+i=m1.s.top+(2+i) by omega]
   obtain ⟨ws3,e3⟩:∃ ws3,ws3=Go.splice s2.ws s2.free (s2.words (s2.top+2) c):=⟨_,rfl⟩;have h3l:ws3.length=m1.s.ws.length:=by rw[e3,zyI _ _ _ (by rw[hwl];omega),h2l]
   have hget3:∀ j,ws3[j]?=if j<s2.free then s2.ws[j]? else if j<s2.free+c then (s2.words (s2.top+2) c)[j-s2.free]? else s2.ws[j]?:=fun j=>by rw[e3,jaC _ _ _ _ (by rw[hwl];omega),hwl]
   have hszn:sz (.clo b (fs++gs))=1+fs.length+c:=by simp[sz,t2];omega
   have hflds:∀ (i f:Nat),(zdm (.clo b (fs++gs)))[i]?=some f->∃ x,ws3[m1.s.free+1+i]?=some x/\Rf (grow φ1 A.h.length m1.s.free) (A.h++[.clo b (fs++gs)]) x f:=by
    intro i f hf';simp only[zdm]at hf';rw[zyd]at hf';split at hf'
    ·next hil=>
     obtain ⟨x,x1,x2⟩:=f2 i f hf';refine ⟨x,?_,x2.mono (M1.rel.grown _) ja3⟩;rw[hget3,if_pos (by omega),hget2,if_neg (by omega),if_pos (by omega),show m1.s.free+1+i-(m1.s.free+1)=i by omega];exact x1
    ·next hil=>
     have hgl:=(zxH.1 hf').1;have hst:=jb5 (t3 (i-fs.length) f hf');rw[jaG]at hst;obtain ⟨w,x,w1,w2,w3⟩:=M1.rel.word (d:=2+(i-fs.length)) (by omega);rw[show A.st.length-1-(2+(i-fs.length))=A.st.length-2-1-(i-fs.length) by omega,hst]at w1;cases w1;refine ⟨x,?_,Rf.mono (M1.rel.grown _) ja3 w3⟩;rw[hget3,if_neg (by omega),if_pos (by omega),show m1.s.free+1+i-s2.free=i-fs.length by omega,hwg _ (by omega)];exact w2
   have R2:=M1.rel.alloc (ws':=ws3) (nd:=.clo b (fs++gs)) ⟨hok.1,by rw[zxP,t2];exact hg.1⟩ rfl (by rw[hszn];omega) h3l (fun j hj=>by
    rw[hszn]at hj;rw[hget3];by_cases h1:j<s2.free
    ·rw[if_pos h1,hget2,if_neg (by omega),if_neg (by omega)]
    ·rw[if_neg h1,if_neg (by omega),hget2,if_neg (by omega),if_neg (by omega)])
    ⟨(by rw[hget3,if_pos (by omega),hget2,if_pos rfl];simp only[hdr];rw[zxP,t2]),(fun v hv=>(by cases hv)),hflds⟩
   rw[hszn]at R2;obtain ⟨u1,u2⟩:=ja4 R2 (c:=2+c) (by omega);obtain ⟨v1,v2⟩:=jaD u2 (x:=m1.s.free) (w:=.ad A.h.length) (by simp only;omega) ⟨m1.s.free,rfl,.inl (by simp[grow])⟩;unfold MSt.extended;rw[q2];simp only;rw[hc,hw,zxY,if_pos ⟨hg.1,by have:=hok.1;omega,by omega,by omega,hg.2⟩,hnode];simp only;rw[if_pos ⟨by rw[hget2,if_neg (by omega),if_neg (by omega)];exact q6.1,h2l,by omega,by omega⟩];have hs3:({ s2 with ws:=Go.splice s2.ws s2.free (s2.words (s2.top+2) c),free:=s2.free+c }:Sto)={ m1.s with ws:=ws3,free:=m1.s.free+(1+fs.length+c) }:=by
    rw[<-e3,h2f];rw[e2];simp only[Sto.mk.injEq];refine ⟨trivial,trivial,trivial,by omega,trivial⟩
   rw[hs3,u1];simp only[zyy];rw[v1];simp only[zyL];exact zaR.ok ⟨v2,M1.half,M1.fuel,M1.next,M1.below,jcD M1.vi rfl⟩
 ·exact zaR.none _ _ _
theorem jc4{s:Sto}{fc:List Int}{h:List Nd}{fns:List Nat}(R:Rel s fc h st fns φ){lk lf:Nat}(hl:lk<=st.length)(hf0:lf≠0)(hfl:lf<=1000000)(hroom:s.free+1<=s.top):∃ s',s.leave lk lf=some s'/\Rel s' fc h (leave st lk lf) fns φ/\s'.free=s.free/\s'.top=s.top-1/\s'.half=s.half/\s'.ws.length=s.ws.length:=by
 have htp:=R.tp;have hhi:=R.hi;have hcl:(s.words s.top lk).length=lk:=by unfold Sto.words;rw[zyb,zyp];omega
 have hsl:(Go.splice s.ws (s.top-1) (s.words s.top lk)).length=s.ws.length:=zyI _ _ _ (by rw[hcl];omega);refine ⟨{ s with top:=s.top-1,ws:=(Go.splice s.ws (s.top-1) (s.words s.top lk)).set (s.top-1+lk) (Mk 2 lf) },?_,?_,rfl,rfl,rfl,by simp only[zx2];exact hsl⟩
 ·unfold Sto.leave;rw[if_pos ⟨by omega,by omega,hfl⟩]
 ·have hget:∀ j,((Go.splice s.ws (s.top-1) (s.words s.top lk)).set (s.top-1+lk) (Mk 2 lf))[j]?=if j=s.top-1+lk then some (Mk 2 lf) else if s.top-1<=j/\j<s.top-1+lk then s.ws[j+1]? else s.ws[j]?:=by
   intro j;rw[zxR,hsl];by_cases h1:s.top-1+lk=j
   ·rw[if_pos h1,if_pos (by omega),if_pos h1.symm]
   ·have h1':¬ j=s.top-1+lk:=fun e=>h1 e.symm
    rw[if_neg h1,if_neg h1',jaC _ _ _ _ (by rw[hcl];omega),hcl];by_cases h2:j<s.top-1
    ·rw[if_pos h2,if_neg (by omega)]
    ·rw[if_neg h2];by_cases h3:j<s.top-1+lk
     ·rw[if_pos h3,if_pos (by omega)];unfold Sto.words;rw[zyq,if_pos (by omega),zyr];congr 1;omega
     ·rw[if_neg h3,if_neg (by omega)]
  unfold leave;rw[if_neg hf0];refine R.jaN (by rw[zx2];exact hsl) (fun j h1 h2=>by rw[hget,if_neg (by omega),if_neg (by omega)]) (by omega) (by simp;omega) (fun i w hw=>?_);rw[hget];rw[zye,zyd,zyb,zyO (by omega)]at hw;split at hw
  ·next hil=>
   rw[zyq,if_pos hil]at hw;obtain ⟨y,y1,y2⟩:=R.stk i w hw;exact ⟨y,by rw[if_neg (by omega),if_neg (by omega)];exact y1,y2⟩
  ·next hil=>
   by_cases h0:i=st.length-lk
   ·subst h0;simp at hw;subst hw;exact ⟨Mk 2 lf,by rw[if_pos (by omega)],rfl⟩
   ·rw[List.singleton_append,show i-(st.length-lk)=(i-(st.length-lk)-1)+1 by omega,zyP,zyr]at hw;have hlt:=(zxH.1 hw).1;obtain ⟨y,y1,y2⟩:=R.stk _ w hw;refine ⟨y,?_,y2⟩;rw[if_neg (by omega),if_pos (by omega),<-y1];congr 1;omega
theorem jdP(M:MR sl hf m A φ){n lk lf:Nat}{fs:List Nat}(ht:A.st.getLast?=some (.ad a))(hn:A.h[a]?=some (.clo b fs))(_hb:sl[b]?=some n):zaR sl hf (m.call lk lf) (A.call hf b lk lf fs):=by
 have hok:=M.rel.ok a _ hn;obtain ⟨p,p1,p2,p3,p4,p5,p6⟩:=M.rel.jaL ht hn rfl;have hc:cnt (hdr (.clo b fs))=fs.length:=jbH hok rfl;unfold MSt.call;rw[p2];simp only;rw[hc];refine jaE M (fun m1 φ1 M1 hr ho=>?_);split
 ·next hg=>
  obtain ⟨q,q1,q2,q3,q4,q5,q6⟩:=M1.rel.jaL ht hn rfl;have hsz:sz (.clo b fs)=1+fs.length:=rfl;have hhi:=M1.rel.hi;have hft:=M1.rel.ft;have htop:=M1.rel.tp;obtain ⟨u1,u2⟩:=ja4 M1.rel (c:=2) (by omega);have hcut:A.st.take (A.st.length-2)=zcE A.st 2:=rfl;rw[hcut]at u2;have hL:∃ s3,(if lf=0 then some { m1.s with top:=m1.s.top+2 } else Sto.leave { m1.s with top:=m1.s.top+2 } lk lf)=some s3/\Rel s3 m1.fns A.h (leave (zcE A.st 2) lk lf) A.fns φ1/\s3.free=m1.s.free/\m1.s.top<=s3.top/\s3.half=m1.s.half/\s3.ws.length=m1.s.ws.length:=by
   by_cases h0:lf=0
   ·rw[if_pos h0];refine ⟨_,rfl,?_,rfl,by simp only;omega,rfl,rfl⟩;unfold leave;rw[if_pos h0];exact u2
   ·rw[if_neg h0];obtain ⟨s3,l1,l2,l3,l4,l5,l6⟩:=jc4 u2 (lk:=lk) (lf:=lf) (by rw[jaG];omega) h0 hg.2 (by simp only;omega);exact ⟨s3,l1,l2,l3,by rw[l4];simp only;omega,l5,l6⟩
  obtain ⟨s3,l1,l2,l3,l4,l5,l6⟩:=hL;obtain ⟨a1,a2,a3⟩:=l2.jbN q1 hn rfl;have hhi3:=l2.hi;have hft3:=l2.ft;have htp3:=l2.tp;obtain ⟨f1,f2⟩:=a3.fields (by simp only[zdm];omega);simp only[zdm]at f1 f2;obtain ⟨v1,v2⟩:=zgq l2 (fs:=fs) f1 (by rw[f1];omega) f2;obtain ⟨s4,e4⟩:∃ s4:Sto,s4={ s3 with top:=s3.top-(s3.words (q+1) fs.length).length,ws:=Go.splice s3.ws (s3.top-(s3.words (q+1) fs.length).length) (s3.words (q+1) fs.length) }:=⟨_,rfl⟩;rw[<-e4]at v1 v2;have h4:s4.half=m1.s.half:=by rw[e4];exact l5
  obtain ⟨b1,b2,b3⟩:=v2.jbN q1 hn rfl;unfold MSt.called;rw[q2];simp only;rw[u1];simp only;rw[l1];simp only;rw[a3.head hok rfl];simp only;rw[hc,if_neg (by omega),v1];simp only;rw[b3.head hok rfl];simp only[zyL];refine zaR.ok (φ:=φ1) ⟨v2,h4.trans M1.half,M1.fuel,?_,M1.below,M1.vi⟩;simp only[hdr];exact zdH (by omega) hok.2
 ·exact zaR.none _ _ _
theorem jcS(M:MR sl hf m A φ)(c:Nat){r:Except Nat (Bool × Ma)}(h:A.za4 hf sl c=some r):
  match r with
  |.error k=>m.za4 sl c=some (.error k)
  |.ok q=>∃ m' φ',m.za4 sl c=some (.ok (q.1,m'))/\MR sl hf m' q.2 φ':=by
 unfold Ma.za4 at h;cases ht:A.st.getLast? with
 |none=>rw[ht]at h;simp at h
 |some w=>
  rw[ht]at h;cases w with
  |mk _ _=>simp at h
  |ad a=>
   simp only at h;cases hn:A.h[a]? with
   |none=>rw[hn]at h;simp at h
   |some nd=>
    rw[hn]at h;have hl:∀ nd',A.h[a]?=some nd'->zaU nd'=false->∃ p,m.s.nodeAt 0=some (p,hdr nd')/\m.s.head p=some (hdr nd')/\m.s.ws[p]?=some (hdr nd')/\0<=hdr nd'/\hdr nd' < 9223372036854775808:=fun nd' hn' hf'=>by
     obtain ⟨p,p1,p2,p3,p4,p5,p6⟩:=M.rel.jaL ht hn' hf';obtain ⟨r1,r2⟩:=jaI (M.rel.ok a _ hn');exact ⟨p,p2,p6.head (M.rel.ok a _ hn') rfl,p6.1,r1,r2⟩
    cases nd with
    |num v=>
     simp only at h;cases h;obtain ⟨p,h1,h2,h3,h4,h5⟩:=hl _ hn rfl;simp only;unfold MSt.za4;rw[h1];simp only;unfold Sto.zfL;rw[h3];simp only;rw[if_neg (by omega),if_neg (by simp[hdr])];simp
    |data t fs=>
     simp only at h;cases h;obtain ⟨p,h1,h2,h3,h4,h5⟩:=hl _ hn rfl;simp only;unfold MSt.za4;rw[h1];simp only;unfold Sto.zfL;rw[h3];simp only;rw[if_neg (by omega),if_neg (by simp only[hdr];rw[zbz (by omega)];omega)];simp
    |clo b fs=>
     simp only at h;obtain ⟨p,h1,h2,h3,h4,h5⟩:=hl _ hn rfl;have hok:=M.rel.ok a _ hn;cases hb:sl[b]? with
     |none=>rw[hb]at h;simp at h
     |some n=>
      rw[hb]at h;simp only at h;split at h
      ·cases h
      ·next hlt=>
       have hlk:m.s.zfL sl p=some ((n:Int)-fs.length):=by
        unfold Sto.zfL;rw[h3];simp only;rw[if_neg (by omega),if_pos (by simp only[hdr];exact zbz (by omega))];have hw:hdr (.clo b fs)/65536=(b:Int):=by simp only[hdr];exact zdH (by omega) hok.2
        have hcn:hdr (.clo b fs)/16%4096=(fs.length:Int):=by simp only[hdr];exact zeb (by omega) hok.2
        rw[hw,zxY,hb,hcn]
       have hun:m.za4 sl c=(if (c:Int)<(n:Int)-fs.length then (match m.extend c with|none=>none|some (.error k)=>some (.error k)|some (.ok m')=>some (.ok (false,m'))) else if 2000000<c then none else (match m.call (n-fs.length) (c-(n-fs.length)) with|none=>none|some (.error k)=>some (.error k)|some (.ok m')=>some (.ok (true,m')))):=by
        unfold MSt.za4;rw[h1];simp only;rw[hlk];simp only;rw[if_neg (by omega),show ((n:Int)-fs.length).toNat=n-fs.length by omega];rfl
       rw[hun];split at h
       ·next hcl=>
        rw[if_pos (by omega)];cases he:A.extend hf b c fs with
        |none=>rw[he]at h;simp at h
        |some q=>
         rw[he]at h;have hs:=jc7 M (c:=c) ht hn hb q he;cases q with
         |error k=>simp only at h hs;cases h;simp only;rw[hs]
         |ok A'=>
          simp only at h hs;cases h;obtain ⟨m',φ',g1,g2⟩:=hs;simp only;rw[g1];exact ⟨m',φ',rfl,g2⟩
       ·next hcl=>
        rw[if_neg (by omega)];split at h
        ·cases h
        ·next h2m=>
         rw[if_neg h2m];cases he:A.call hf b (n-fs.length) (c-(n-fs.length)) fs with
         |none=>rw[he]at h;simp at h
         |some q=>
          rw[he]at h;have hs:=jdP M (lk:=n-fs.length) (lf:=c-(n-fs.length)) ht hn hb q he;cases q with
          |error k=>simp only at h hs;cases h;simp only;rw[hs]
          |ok A'=>
           simp only at h hs;cases h;obtain ⟨m',φ',g1,g2⟩:=hs;simp only;rw[g1];exact ⟨m',φ',rfl,g2⟩
    |busy=>simp at h
    |fwd b=>simp at h
variable {sl:List Nat} {hf:Nat} {m:MSt} {A:Ma} {φ:Nat->Option Nat}
theorem jb8{k:Nat}(hk:k<4)(hb:b<1000000000):waits (Mk k b)=some (k,b):=by
 unfold waits Mk;rw[if_pos (by omega)];congr 2
 ·omega
 ·omega
theorem zrP(M:MR sl hf m A φ){v j0:Nat}{nv:Nd}(h3:3<=A.st.length)(hv:A.st[A.st.length-1]?=some (.ad v))(_hk:A.st[A.st.length-2]?=some (.mk 0 j0))(hc:A.st[A.st.length-3]?=some (.ad c))(hb:A.h[c]?=some .busy)(hnv:A.h[v]?=some nv)(hval:val sl nv):
  ∃ s',m.s.update=some s'/\MR sl hf { m with s:=s' } { A with h:=A.h.set c (.fwd v),st:=zcE A.st 3++[.ad v] } φ:=by
 have hvf:=jd3 hval;have hvc:v≠c:=fun e=>by subst e;rw[hb]at hnv;cases hnv;exact hval
 have htp:=M.rel.tp;have hhi:=M.rel.hi;have hft:=M.rel.ft;have hwl:=M.rel.wl;obtain ⟨w,x,w1,w2,w3⟩:=M.rel.word (d:=0) (by omega);rw[zzd,hv]at w1;cases w1;rw[zyK]at w2;obtain ⟨w,y,y1,y2,y3⟩:=M.rel.word (d:=2) (by omega);rw[show A.st.length-1-2=A.st.length-3 by omega,hc]at y1;cases y1;obtain ⟨pv,rfl,v2,v3,v4,v5⟩:=M.rel.jaS w3 hnv hvf;obtain ⟨pc,rfl,c2,c3,c4,c5⟩:=M.rel.jaS y3 hb rfl;have hs:=ja7 nv;have hsb:sz .busy=1:=rfl;rw[hsb]at c4;refine ⟨{ m.s with ws:=(m.s.ws.set pc (Hd 4 pv 0)).set (m.s.top+2) pv,top:=m.s.top+2 },?_,?_⟩
 ·unfold Sto.update;rw[w2];simp only;rw[y2];simp only;rw[if_pos ⟨by omega,by omega,by omega,by omega⟩,zxY,zxY]
 ·have hnt:∀ (x' b':Nat),A.h[x']?=some (.fwd b')->b'≠c:=fun x' b' hx e=>by
   obtain ⟨n',g1,g2⟩:=M.vi x' b' hx;rw[e,hb]at g1;cases g1;exact g2
  have R1:=M.rel.jd4 (ws':=m.s.ws.set pc (Hd 4 pv 0)) (nd':=.fwd v) c2 hb rfl trivial (by simp[sz]) (by simp) (fun j hj=>by rw[zxR,if_neg (by simp only[sz]at hj;omega)])
   (.inl ⟨v,pv,rfl,v2,by rw[zxR,if_pos rfl,if_pos (by omega)]⟩) (fun _=>hnt) (fun b' e=>by cases e;exact ⟨hvc,nv,hnv,hvf⟩)
  have hkeep:∀ (c' b':Nat),A.h[c']?=some (.fwd b')->(A.h.set c (.fwd v))[c']?=some (.fwd b'):=zqe hb rfl;have R2:=R1.jaN (ws':=(m.s.ws.set pc (Hd 4 pv 0)).set (m.s.top+2) pv) (top':=m.s.top+2) (st':=zcE A.st 3++[.ad v]) (by simp) (fun j h1 h2=>by simp only at h1 h2 ⊢;rw[zxR,if_neg (by omega)]) (by simp only;omega) (by simp only[zxP,zxW,jaG];omega) (fun i w hw=>by
   simp only;rw[zyd,jaG]at hw;split at hw
   ·next hil=>
    have hw':=jb5 hw;obtain ⟨z,z1,z2⟩:=R1.stk i w hw';simp only at z1;exact ⟨z,by rw[zxR,if_neg (by omega)];exact z1,z2⟩
   ·next hil=>
    have:=(zxH.1 hw).1;simp at this;have h1:i-(A.st.length-3)=0:=by omega
    rw[h1]at hw;simp at hw;subst hw;refine ⟨pv,by rw[show m.s.low+m.s.half-1-i=m.s.top+2 by omega,zxR,if_pos rfl,if_pos (by rw[zx2];omega)],⟨pv,rfl,.inl v2⟩⟩)
  refine ⟨R2,M.half,M.fuel,M.next,M.below,fun a b hab=>?_⟩;have hcl:=(zxH.1 hb).1;simp only at hab ⊢;rw[zxR]at hab;by_cases e:c=a
  ·rw[if_pos e,if_pos hcl]at hab;cases hab;exact ⟨nv,by rw[zxR,if_neg (fun e=>hvc e.symm)];exact hnv,hval⟩
  ·rw[if_neg e]at hab;obtain ⟨n',g1,g2⟩:=M.vi a b hab;exact ⟨n',by rw[zxR,if_neg (fun e=>hnt a b hab e.symm)];exact g1,g2⟩
theorem jaH:∀ (g:Nat) (m:MSt) (A:Ma) (φ:Nat->Option Nat),MR sl hf m A φ->zaR sl hf (m.za1 sl g) (A.za1 hf sl g)
 |0,_,_,_,_=>zaR.none _ _ _
 |g+1,m,A,φ,M=>by
  have htp:=M.rel.tp;have hft:=M.rel.ft;have hlf:=M.rel.lf;have hwl:=M.rel.wl;have hhi:=M.rel.hi;rw[Ma.za1,MSt.za1];by_cases h1:A.st.length<=1
  ·rw[if_pos h1,if_pos (by omega)];exact zaR.ok ⟨M.rel,M.half,M.fuel,rfl,M.below,M.vi⟩
  ·rw[if_neg h1,if_neg (by omega)];obtain ⟨w,x,w1,w2,w3⟩:=M.rel.word (d:=1) (by omega);rw[show A.st.length-1-1=A.st.length-2 by omega]at w1;rw[w1];cases w with
   |ad a=>exact zaR.none _ _ _
   |mk k b=>
    have hx:x=Mk k b:=w3;simp only;by_cases hbb:1000000000<=b
    ·rw[if_pos hbb];exact zaR.none _ _ _
    ·rw[if_neg hbb,w2,hx];simp only;by_cases hk0:k=0
     ·subst hk0;rw[if_pos rfl,jb8 (by omega) (by omega)];simp only;rw[if_pos trivial];cases hv:A.st[A.st.length-1]? with
      |none=>exact zaR.none _ _ _
      |some wv=>
       cases wv with
       |mk _ _=>exact zaR.none _ _ _
       |ad v=>
        simp only;by_cases h3:3<=A.st.length
        ·rw[if_pos h3];cases hc:A.st[A.st.length-3]? with
         |none=>exact zaR.none _ _ _
         |some wc=>
          cases wc with
          |mk _ _=>exact zaR.none _ _ _
          |ad c=>
           simp only;have go:∀ nv,A.h[c]?=some .busy->A.h[v]?=some nv->val sl nv->zaR sl hf (match m.s.update with|none=>none|some s'=>MSt.za1 sl g { m with s:=s' }) (Ma.za1 hf sl g { A with h:=A.h.set c (.fwd v),st:=zcE A.st 3++[.ad v] }):=fun nv hb hnv hval=>by
            obtain ⟨s',u1,u2⟩:=zrP M h3 hv w1 hc hb hnv hval;rw[u1];exact jaH g _ _ φ u2
           cases hcn:A.h[c]? with
           |none=>exact zaR.none _ _ _
           |some nc=>
            cases hvn:A.h[v]? with
            |none=>cases nc <;> exact zaR.none _ _ _
            |some nv=>
             cases nc with
             |busy=>
              cases nv with
              |num z=>exact go _ hcn hvn trivial
              |data t fs=>exact go _ hcn hvn trivial
              |clo b' fs=>
               simp only;by_cases hval:∃ n,sl[b']?=some n/\fs.length<n
               ·rw[if_pos hval];exact go _ hcn hvn hval
               ·rw[if_neg hval];exact zaR.none _ _ _
              |busy=>exact zaR.none _ _ _
              |fwd _=>exact zaR.none _ _ _
             |num _=>exact zaR.none _ _ _
             |data _ _=>exact zaR.none _ _ _
             |clo _ _=>exact zaR.none _ _ _
             |fwd _=>exact zaR.none _ _ _
        ·rw[if_neg h3];exact zaR.none _ _ _
     ·rw[if_neg hk0];by_cases hk1:k=1
      ·subst hk1;rw[if_pos rfl,jb8 (by omega) (by omega)];simp only;rw[if_neg (by omega),if_pos trivial];cases hv:A.st[A.st.length-1]? with
       |none=>exact zaR.none _ _ _
       |some wv=>
        cases wv with
        |mk _ _=>exact zaR.none _ _ _
        |ad v=>
         obtain ⟨w,y,y1,y2,y3⟩:=M.rel.word (d:=0) (by omega);rw[zzd,hv]at y1;cases y1;rw[zyK]at y2;simp only;rw[y2];simp only;have R2:=M.rel.jaN (ws':=m.s.ws.set (m.s.top+1) y) (top':=m.s.top+1) (st':=zcE A.st 2++[.ad v]) (by simp) (fun j h1 h2=>by rw[zxR,if_neg (by omega)]) (by omega) (by simp only[zxP,zxW,jaG];omega) (fun i w hw=>by
          rw[zyd,jaG]at hw;split at hw
          ·next hil=>
           obtain ⟨z,z1,z2⟩:=M.rel.stk i w (jb5 hw);exact ⟨z,by rw[zxR,if_neg (by omega)];exact z1,z2⟩
          ·next hil=>
           have:=(zxH.1 hw).1;simp at this;have h1:i-(A.st.length-2)=0:=by omega
           rw[h1]at hw;simp at hw;subst hw;exact ⟨y,by rw[show m.s.low+m.s.half-1-i=m.s.top+1 by omega,zxR,if_pos rfl,if_pos (by omega)],y3⟩)
         have hpop:Sto.pop { m.s with ws:=m.s.ws.set (m.s.top+1) y } 1=some { m.s with ws:=m.s.ws.set (m.s.top+1) y,top:=m.s.top+1 }:=by
          unfold Sto.pop;rw[if_pos (by simp only;omega)]
         rw[hpop];exact zaR.ok (φ:=φ) ⟨R2,M.half,M.fuel,rfl,M.below,M.vi⟩
      ·rw[if_neg hk1];by_cases hk2:k=2
       ·subst hk2;rw[if_pos rfl,jb8 (by omega) (by omega)];simp only;rw[if_neg (by omega),if_neg (by omega),if_pos trivial];cases ha:A.za4 hf sl b with
        |none=>exact zaR.none _ _ _
        |some r=>
         have hs:=jcS M b ha;cases r with
         |error j=>
          simp only at hs;rw[hs];exact zaR.error _ _ _
         |ok q=>
          simp only at hs;obtain ⟨m',φ',g1,g2⟩:=hs;rw[g1];simp only;by_cases hq:q.1=true
          ·rw[if_pos hq,if_pos hq];exact zaR.ok g2
          ·rw[if_neg hq,if_neg hq];exact jaH g _ _ _ g2
       ·rw[if_neg hk2];exact zaR.none _ _ _
theorem jbY{s:Sto}{fc:List Int}{h:List Nd}{fns:List Nat}(R:Rel s fc h st fns φ){x:Int}{w:Wd}(h0:0<st.length)(hw:RW φ h x w):Rel { s with ws:=s.ws.set s.top x } fc h (zcE st 1++[w]) fns φ:=by
 have htp:=R.tp;have hhi:=R.hi;have hft:=R.ft;have:=R.jaN (ws':=s.ws.set s.top x) (top':=s.top) (st':=zcE st 1++[w]) (by simp) (fun j h1 h2=>by rw[zxR,if_neg (by omega)]) hft (by simp only[zxP,zxW,jaG];omega) (fun i w' hw'=>by
  rw[zyd,jaG]at hw';split at hw'
  ·next hil=>
   obtain ⟨z,z1,z2⟩:=R.stk i w' (jb5 hw');exact ⟨z,by rw[zxR,if_neg (by omega)];exact z1,z2⟩
  ·next hil=>
   have:=(zxH.1 hw').1;simp at this;have h1:i-(st.length-1)=0:=by omega
   rw[h1]at hw';simp at hw';subst hw';exact ⟨x,by rw[show s.low+s.half-1-i=s.top by omega,zxR,if_pos rfl,if_pos (by omega)],hw⟩)
 exact this
theorem jcF(M:MR sl hf m A φ){p:Nat}{nd:Nd}(ht:A.st.getLast?=some (.ad a))(hn:A.h[a]?=some nd)(hfw:zaU nd=false)(hp:φ a=some p):
  zaR sl hf (m.zcy sl p) (match nd with
   |.busy=>some (.error 5)
   |.num _=>A.za1 hf sl (A.st.length+1)
   |.data _ _=>A.za1 hf sl (A.st.length+1)
   |.clo b fs=>(match sl[b]? with|none=>none|some n=>if n=fs.length then A.zdw hf a b fs else if fs.length<n then A.za1 hf sl (A.st.length+1) else none)
   |_=>none):=by
 have hok:=M.rel.ok a _ hn;obtain ⟨q1,q2,q3⟩:=M.rel.jbN hp hn hfw;obtain ⟨r1,r2⟩:=jaI hok;have htp:=M.rel.tp;have hh:m.ztx=A.st.length+1:=by unfold MSt.ztx;omega
 unfold MSt.zcy;rw[q3.head hok rfl];simp only;cases nd with
 |num v=>
  rw[if_neg (by simp[hdr])];unfold Sto.zfL;rw[q3.1];simp only;rw[if_neg (by omega),if_neg (by simp[hdr])];simp only;rw[if_neg (by omega),hh];exact jaH _ _ _ _ M
 |data t fs=>
  rw[if_neg (by simp only[hdr];rw[zbz (by omega)];omega)];unfold Sto.zfL;rw[q3.1];simp only;rw[if_neg (by omega),if_neg (by simp only[hdr];rw[zbz (by omega)];omega)];simp only;rw[if_neg (by omega),hh];exact jaH _ _ _ _ M
 |busy=>
  rw[if_pos (by simp only[hdr];exact zbz (by omega))];exact zaR.error _ _ _
 |fwd b=>simp[zaU]at hfw
 |clo b fs=>
  simp only;cases hb:sl[b]? with
  |none=>exact zaR.none _ _ _
  |some n=>
   simp only;have hlk:m.s.zfL sl p=some ((n:Int)-fs.length):=by
    unfold Sto.zfL;rw[q3.1];simp only;rw[if_neg (by omega),if_pos (by simp only[hdr];exact zbz (by omega))];have hw:hdr (.clo b fs)/65536=(b:Int):=by simp only[hdr];exact zdH (by omega) hok.2
    have hcn:hdr (.clo b fs)/16%4096=(fs.length:Int):=by simp only[hdr];exact zeb (by omega) hok.2
    rw[hw,zxY,hb,hcn]
   rw[if_neg (by simp only[hdr];rw[zbz (by omega)];omega),hlk];simp only;by_cases hnl:n=fs.length
   ·rw[if_pos (by omega),if_pos hnl];exact jdJ M ht hn hb hnl
   ·rw[if_neg (by omega),if_neg hnl];by_cases hlt:fs.length<n
    ·rw[if_pos hlt,hh];exact jaH _ _ _ _ M
    ·rw[if_neg hlt];exact zaR.none _ _ _
theorem jcA(M:MR sl hf m A φ):zaR sl hf (m.enter sl) (A.enter hf sl):=by
 unfold Ma.enter;cases ht:A.st.getLast? with
 |none=>exact zaR.none _ _ _
 |some w=>
  cases w with
  |mk _ _=>exact zaR.none _ _ _
  |ad a=>
   obtain ⟨g0,g1⟩:=jaX ht;obtain ⟨w,x,w1,w2,w3⟩:=M.rel.word (d:=0) g0;rw[zzd,g1]at w1;cases w1;rw[zyK]at w2;have htp:=M.rel.tp;have hhi:=M.rel.hi;have hwl:=M.rel.wl;have hlen1:(zcE A.st 1++[Wd.ad (can A.h a)]).length=A.st.length:=by simp only[zxP,zxW,jaG];omega
   have htop1:(zcE A.st 1++[Wd.ad (can A.h a)]).getLast?=some (.ad (can A.h a)):=by simp
   have key:∃ nd p m',A.h[can A.h a]?=some nd/\zaU nd=false/\φ (can A.h a)=some p/\MR sl hf m' { A with st:=zcE A.st 1++[.ad (can A.h a)] } φ/\m.enter sl=m'.zcy sl p:=by
    obtain ⟨q,rfl,hq⟩:=w3;have plain:∀ (c:Nat) (nd:Nd),φ c=some q->A.h[c]?=some nd->zaU nd=false->can A.h a=c->∃ nd p m',A.h[can A.h a]?=some nd/\zaU nd=false/\φ (can A.h a)=some p/\MR sl hf m' { A with st:=zcE A.st 1++[.ad (can A.h a)] } φ/\m.enter sl=m'.zcy sl p:=fun c nd hc hn hfw hcan=>by
     obtain ⟨b1,b2,b3⟩:=M.rel.jbN hc hn hfw;have hok:=M.rel.ok c nd hn;have R2:=jbY M.rel (x:=q) (w:=.ad (can A.h a)) g0 ⟨q,rfl,.inl (by rw[hcan];exact hc)⟩;rw[jcY w2]at R2;refine ⟨nd,q,m,by rw[hcan];exact hn,hfw,by rw[hcan];exact hc,⟨R2,M.half,M.fuel,M.next,M.below,M.vi⟩,?_⟩;unfold MSt.enter Sto.nodeAt;rw[zyK,w2];simp only;rw[if_neg (by omega),zxY,b3.head hok rfl];simp only[zyL];rw[if_neg (jbU hfw).1]
    rcases hq with hq|⟨b,hb,hq⟩
    ·obtain ⟨nd,n1,n2,n3,n4⟩:=M.rel.nod a q hq;rcases n4 with ⟨b,p',rfl,n5,n6⟩|⟨n5,_⟩
     ·obtain ⟨nb,hnb,hnf⟩:=M.rel.fw a b n1;obtain ⟨nb',c1,c2,c3,_⟩:=M.rel.nod b p' n5;have hfr:=M.rel.ft;have hk:Hd 4 p' 0%16=4:=zbz (by omega);have hw:Hd 4 p' 0/65536=(p':Int):=zdH (by omega) (by omega);have hcan:can A.h a=b:=jaY n1;have R2:=jbY M.rel (x:=p') (w:=.ad (can A.h a)) g0 ⟨p',rfl,.inl (by rw[hcan];exact n5)⟩;refine ⟨nb,p',{ m with s:={ m.s with ws:=m.s.ws.set m.s.top p' } },by rw[hcan];exact hnb,hnf,by rw[hcan];exact n5,⟨R2,M.half,M.fuel,M.next,M.below,M.vi⟩,?_⟩;have hsp:=ja7 nb';unfold MSt.enter Sto.nodeAt Sto.head;rw[zyK,w2];simp only;rw[if_neg (by omega),zxY,n6];simp only;rw[if_neg (by unfold Hd;omega)];simp only[zyL];rw[if_pos hk,if_neg (by omega),hw,zxY]
     ·exact plain a nd hq n1 n5 (jaJ n1 n5)
    ·obtain ⟨nb,hnb,hnf⟩:=M.rel.fw a b hb;exact plain b nb hq hnb hnf (jaY hb)
   obtain ⟨nd,p,m',k1,k2,k3,k4,k5⟩:=key;rw[k5];have hs:=jcF k4 htop1 k1 k2 k3;rw[hlen1]at hs;simp only;rw[k1];cases nd <;> first|exact hs|simp[zaU]at k2
theorem jdR(M:MR sl hf m A φ)(i:Ins):zaR sl hf (m.step sl i) (A.step hf sl i):=by
 cases i with
 |push k=>exact jcB M k
 |zcS f=>exact jcU M f
 |num v=>exact zb1 M v
 |pack t c=>exact jdD M t c
 |close b c=>exact jc9 M b c
 |hold b c=>exact zvk M b c
 |fill k c=>exact jdV M k c
 |wait b=>exact ja1 M 1 b
 |zbD c=>exact ja1 M 2 c
 |zcf c=>exact jdL M c
 |zbV=>exact jcP M
 |comp sg=>exact jcQ M sg
 |enter=>exact jcA M
 |jump b=>exact zaR.ok ⟨M.rel,M.half,M.fuel,rfl,M.below,M.vi⟩
 |choose zao=>exact jc5 M zao
theorem jb0:∀ (l:List Ins) (m:MSt) (A:Ma) (φ:Nat->Option Nat),MR sl hf m A φ->zaR sl hf (m.za9 sl l) (A.za9 hf sl l)
 |[],m,A,φ,M=>zaR.ok M
 |i::l,m,A,φ,M=>by
  rw[Ma.za9,MSt.za9];unfold MSt.zsQ;rw[M.fuel];by_cases h0:A.fuel=0
  ·rw[if_pos h0,if_pos h0];exact zaR.error _ _ _
  ·rw[if_neg h0,if_neg h0];simp only;have M1:MR sl hf { m with o:={ m.o with fuel:=A.fuel-1 } } { A with fuel:=A.fuel-1 } φ:=⟨M.rel,M.half,rfl,M.next,M.below,M.vi⟩;cases hs:Ma.step hf sl { A with fuel:=A.fuel-1 } i with
   |none=>exact zaR.none _ _ _
   |some r=>
    have hr:=jdR M1 i r hs;cases r with
    |error k=>simp only at hr;rw[hr];exact zaR.error _ _ _
    |ok A2=>
     simp only at hr;obtain ⟨m2,φ2,g1,g2⟩:=hr;rw[g1];exact jb0 l m2 A2 φ2 g2
theorem jc0(cd:List (Nat × List Ins)):∀ (g:Nat) (m:MSt) (A:Ma) (φ:Nat->Option Nat),MR (cd.map Prod.fst) hf m A φ->zaR (cd.map Prod.fst) hf (m.work cd g) (A.work hf cd g)
 |0,_,_,_,_=>zaR.none _ _ _
 |g+1,m,A,φ,M=>by
  rw[Ma.work,MSt.work,M.next];by_cases h1:A.next=-1
  ·rw[if_pos h1,if_pos h1];exact zaR.ok M
  ·rw[if_neg h1,if_neg h1];by_cases h2:A.next<0
   ·rw[if_pos h2,if_pos h2];exact zaR.none _ _ _
   ·rw[if_neg h2,if_neg h2];cases hc:cd[A.next.toNat]? with
    |none=>exact zaR.none _ _ _
    |some b=>
     obtain ⟨n,is⟩:=b;simp only;have htp:=M.rel.tp;have M1:MR (cd.map Prod.fst) hf { m with o:={ m.o with below:=(m.s.low:Int)+(m.s.half:Int)-(m.s.top:Int)-(n:Int) } } { A with below:=(A.st.length:Int)-n } φ:=⟨M.rel,M.half,M.fuel,M.next,by simp only;omega,M.vi⟩;cases hs:Ma.za9 hf (cd.map Prod.fst) is { A with below:=(A.st.length:Int)-n } with
     |none=>exact zaR.none _ _ _
     |some r=>
      have hr:=jb0 is _ _ φ M1 r hs;cases r with
      |error k=>simp only at hr;rw[hr];exact zaR.error _ _ _
      |ok A2=>
       simp only at hr;obtain ⟨m2,φ2,g1,g2⟩:=hr;rw[g1];exact jc0 cd g m2 A2 φ2 g2
theorem jbW:∀ (k i:Nat) (m:MSt) (A:Ma) (φ:Nat->Option Nat),MR sl hf m A φ->zaR sl hf (m.zbk i k) (A.zbk hf i k)
 |0,_,m,A,φ,M=>zaR.ok M
 |k+1,i,m,A,φ,M=>by
  rw[MSt.zbk,Ma.zbk];by_cases hi:i<=1000000000
  ·rw[if_pos hi];refine jaE M (fun m1 φ1 M1 hr ho=>?_);obtain ⟨n1,n2⟩:=jb7 M1.rel (nd:=.clo i []) (xs:=[]) ⟨hi,by simp⟩ rfl (by simp[sz];omega) (by simp[sz]) (fun v hv=>by cases hv) (fun j f hf=>by simp[zdm]at hf);have hd:hdr (.clo i [])=Hd 2 i 0:=rfl;rw[hd]at n1 n2;rw[n1];simp only;refine jbW k (i+1) _ _ (grow φ1 A.h.length m1.s.free) ⟨?_,M1.half,M1.fuel,M1.next,M1.below,jcD M1.vi rfl⟩;refine ⟨n2.low,n2.len,n2.wl,n2.lf,n2.ft,n2.tp,n2.stk,by simp[n2.fl],fun j a ha=>?_,n2.nod,n2.dis,n2.ok,n2.fw⟩;simp only at ha ⊢;rw[zyd]at ha;split at ha
   ·next hjl=>
    obtain ⟨x,x1,x2⟩:=n2.fn j a ha;exact ⟨x,by rw[zx8 (by have:=n2.fl;omega)];exact x1,x2⟩
   ·next hjl=>
    have:=(zxH.1 ha).1;simp at this;have h1:j-A.fns.length=0:=by omega
    rw[h1]at ha;simp at ha;subst ha;have hfl:=n2.fl;have hj:j=m1.fns.length:=by omega
    exact ⟨m1.s.free,by rw[hj];simp,⟨m1.s.free,rfl,.inl (by simp[grow])⟩⟩
  ·rw[if_neg hi];exact zaR.none _ _ _
theorem jdE(M:MR sl hf m A φ){nf main:Nat}(h1:m.o.nf=nf)(h2:m.o.main=main):zaR sl hf (m.start sl) (A.start hf sl nf main):=by
 unfold MSt.start Ma.start;rw[h1,zxY];cases hl:A.zbk hf 0 nf with
 |none=>exact zaR.none _ _ _
 |some r=>
  have hr:=jbW nf 0 m A φ M r hl;cases r with
  |error k=>simp only at hr;rw[hr];exact zaR.error _ _ _
  |ok A1=>
   simp only at hr;obtain ⟨m1,φ1,g1,g2⟩:=hr;rw[g1];simp only;have ho:m1.o.main=main:=by
    have:∀ (k i:Nat) (m m1:MSt),m.zbk i k=some (.ok m1)->m1.o=m.o:=by
     intro k
     induction k with
     |zero=>intro i m m1 h;simp[MSt.zbk]at h;rw[h]
     |succ k ih=>
      intro i m m1 h;rw[MSt.zbk]at h;unfold aft at h;cases hn:m.zdC 1 with
      |none=>rw[hn]at h;simp at h
      |some q=>
       rw[hn]at h;cases q with
       |error j=>simp at h
       |ok m2=>
        simp only at h;have hm2:m2.o=m.o:=by
         unfold MSt.zdC at hn;split at hn
         ·cases hn;rfl
         ·split at hn
          ·cases hn
          ·split at hn
           ·simp at hn
           ·cases hn;rfl
        split at h
        ·cases h
        ·exact (ih _ _ _ h).trans hm2
    rw[this nf 0 m m1 g1];exact h2
   refine jaE g2 (fun m2 φ2 M2 hr ho2=>?_);have hmain:m2.o.main=main:=by rw[ho2];exact ho
   rw[hmain,if_neg (by omega),zxY];cases hf':A1.fns[main]? with
   |none=>simp only[];exact zaR.none _ _ _
   |some a=>
    obtain ⟨x,x1,x2⟩:=M2.rel.fn main a hf';obtain ⟨p1,p2⟩:=jaD M2.rel hr (w:=.ad a) x2;simp only[x1,p1];exact jcA (m:={ m2 with s:={ m2.s with top:=m2.s.top-1,ws:=m2.s.ws.set (m2.s.top-1) x } }) (A:={ A1 with st:=A1.st++[.ad a] }) ⟨p2,M2.half,M2.fuel,M2.next,M2.below,M2.vi⟩
theorem jdW(M:MR sl hf m A φ){r:Int × Int × Int × Int}(h:A.told=some r):m.told=some r:=by
 unfold Ma.told at h;cases ht:A.st.getLast? with
 |none=>rw[ht]at h;simp at h
 |some w=>
  rw[ht]at h;cases w with
  |mk _ _=>simp at h
  |ad a=>
   simp only at h;cases hn:A.h[a]? with
   |none=>rw[hn]at h;simp at h
   |some nd=>
    rw[hn]at h;cases nd with
    |num v=>
     obtain ⟨p,p1,p2,p3,p4,p5,p6⟩:=M.rel.jaL ht hn rfl;cases h;unfold MSt.told;rw[p2];simp only;rw[if_pos (by simp[hdr]),p6.2.1 v rfl]
    |data t fs=>
     obtain ⟨p,p1,p2,p3,p4,p5,p6⟩:=M.rel.jaL ht hn rfl;have hok:=M.rel.ok a _ hn;cases h;unfold MSt.told;rw[p2];simp only;have hk:hdr (.data t fs)%16=1:=by simp only[hdr];exact zbz (by omega)
     rw[if_neg (by omega),if_pos hk];simp only[hdr];rw[zdH (by omega) hok.2,zeb (by omega) hok.2]
    |clo b fs=>
     obtain ⟨p,p1,p2,p3,p4,p5,p6⟩:=M.rel.jaL ht hn rfl;cases h;unfold MSt.told;rw[p2];simp only;have hk:hdr (.clo b fs)%16=2:=by simp only[hdr];exact zbz (by omega)
     rw[if_neg (by omega),if_neg (by omega)]
    |busy=>simp at h
    |fwd b=>simp at h
theorem zsd{pv:Value}{cd:List (Nat × List Ins)}{nf main words fuel g:Nat}{r:Int × Int × Int × Int}(hw:words<=1000000)(h:zvQ (words/2) cd nf main fuel g=some r):runM pv cd nf main words fuel g=some r:=by
 have M0:MR (cd.map Prod.fst) (words/2) (MSt.new pv nf main words fuel) (Ma.new fuel) (fun _=>none):=by
  refine ⟨⟨.inl rfl,by simp only[MSt.new,zyt];omega,by simp only[MSt.new,zyt];exact hw,zxJ _,by simp[MSt.new],by simp[MSt.new,Ma.new],by simp[Ma.new],rfl,by simp[Ma.new],by simp,by simp,by simp[Ma.new],by simp[Ma.new]⟩,rfl,rfl,rfl,rfl,by simp[Ma.new]⟩
 unfold zvQ at h;unfold runM;cases hs:(Ma.new fuel).start (words/2) (cd.map Prod.fst) nf main with
 |none=>rw[hs]at h;simp at h
 |some q=>
  rw[hs]at h;have hq:=jdE M0 (nf:=nf) (main:=main) rfl rfl q hs;cases q with
  |error k=>
   simp only at h hq;cases h;rw[hq]
  |ok A1=>
   simp only at h hq;obtain ⟨m1,φ1,g1,g2⟩:=hq;rw[g1];simp only;cases hw:Ma.work (words/2) cd g A1 with
   |none=>rw[hw]at h;simp at h
   |some q2=>
    rw[hw]at h;have hq2:=jc0 cd g m1 A1 φ1 g2 q2 hw;cases q2 with
    |error k=>
     simp only at h hq2;cases h;rw[hq2]
    |ok A2=>
     simp only at h hq2;obtain ⟨m2,φ2,k1,k2⟩:=hq2;rw[k1];exact jdW k2 h
end Ab
end Go.Proofs.YtgahgkddaljmkaaGreatDoor
