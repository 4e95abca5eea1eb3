/- Scope10 .. Plain3 -/
import Derived.Test.YtgahgkddaljmkaaGreatDoorW31
set_option maxRecDepth 100000
set_option maxHeartbeats 4000000
namespace Go.Proofs.YtgahgkddaljmkaaGreatDoor
open Tryz
open Go.RowKit
attribute [local go_sem ↓] Go.wp_at_zero Go.wp_at_succ
def Th.zbM (n:Nat):Nat->Nat->List Th.zbr->Prop
 |lo,hi,[]=>lo<=hi
 |lo,hi,x::r=>lo<=x.name.at_/\∃ m1 m2,Th.zcx (x.name.at_+1) m1 x.params/\Th.In n x.e m1 m2/\Th.zbM n m2 hi r
theorem zec{n:Nat}:∀ {lo hi:Nat} {l:List Th.zbr},Th.zbM n lo hi l->lo+l.length<=hi
 |lo,hi,[],h=>h
 |lo,hi,x::r,h=>by
  obtain ⟨h0,m1,m2,h1,h2,h3⟩:=h;have:=zec h3;have:=Th.In.le h2;have:=Th.zcx.len h1;simp;omega
theorem ziY{n:Nat}:∀ {lo hi:Nat} {l:List Th.zbr},Th.zbM n lo hi l->∀ (k:Nat) (x:Th.zbr),l[k]?=some x->∃ m0 m1 m2,Th.zcx m0 m1 x.params/\Th.In n x.e m1 m2/\m2-m0<=hi-lo
 |lo,hi,[],_,k,x,hx=>by simp at hx
 |lo,hi,y::r,h,0,x,hx=>by
  obtain ⟨h0,m1,m2,h1,h2,h3⟩:=h;simp only[zzl,zyP]at hx;subst hx;have:=zec h3;have:=Th.In.le h2;have:=Th.zcx.len h1;exact ⟨_,_,_,h1,h2,by omega⟩
 |lo,hi,y::r,h,k+1,x,hx=>by
  obtain ⟨h0,m1,m2,h1,h2,h3⟩:=h;have:=Th.In.le h2;have:=Th.zcx.len h1;obtain ⟨a,b,c,i1,i2,i3⟩:=ziY h3 k x (by simpa using hx);exact ⟨a,b,c,i1,i2,by omega⟩
theorem zkn(n:Nat)(all:List (List UInt8)):∀ (seen:List (List UInt8)) (l:List Th.zbr) (x:Th.zbr),Th.zbL n all seen (l++[x])=Th.zbL n all seen l++((if (seen++Th.zaq l).contains x.name.s then [x.name.at_] else [])++Th.zjc [] x.params++Th.zar n x.e (all++Th.texts x.params))
 |seen,[],x=>by simp[Th.zbL,Th.zaq]
 |seen,y::l,x=>by
  simp only[zy7,Th.zbL];rw[zkn n all (seen++[y.name.s]) l x];simp[Th.zaq]
variable {w:World}
theorem zsG{w':World}{o:Obj}(h:(w.alloc o).grownBy w' (some w.heap.size)):Below w.heap.size w w':=
 ⟨h.os,h.tape,h.output,zyR (zag w o none).size h.size,fun k hk=>(h.block k (zyS hk (zag w o none).size) (by intro e;injection e with e;omega)).trans ((zag w o none).block k hk (by simp))⟩
variable {n m lo hi:Nat}
theorem zkA{pv:Value}{l:List Th.zbr}{nvs bvs:List Value}{S1 S2:Nat->Prop}(hr:Row S1 w 93 4 pv l.length (zaR l nvs bvs))(h1:nvs.length=l.length)(h2:bvs.length=l.length)(aR:zdv S2 w m l nvs bvs)(hin:Th.zbM n lo hi l)(hb:hi-lo<=100000):
  Calls prog 42 #[pv] w fun e w'=>e=.returned (.tuple #[.int .i64 ((Th.zbL n (Th.zaq l) [] l).head?.getD 0),.bool (Th.zbL n (Th.zaq l) [] l).head?.isSome])/\Below w.heap.size w w':=by
 have aL:=zec hin;have lp:l.length<=100000:=by omega
 have ju:Row (fun b=>b<w.heap.size) w 93 4 pv l.length (zaR l nvs bvs):=hr.mono (fun k hk _=>hk);have nW:zdv (fun b=>b<w.heap.size) w m l nvs bvs:=fun i x nv bv a b c=>⟨(aR i x nv bv a b c).1.mono (fun k hk _=>hk),(aR i x nv bv a b c).2.mono (fun k hk _=>hk)⟩
 have bR:∀ (i:Nat) (nv bv:Value),nvs[i]?=some nv->bvs[i]?=some bv->nv.oneCell'=true/\bv.oneCell'=true:=fun i nv bv hp hq=>by
  have:i<l.length:=by rw[<-h1];exact (zyL.1 hp).1
  have hh:=aR i l[i] nv bv (zyM this) hp hq;refine ⟨?_,(ztU hh.2).one⟩;obtain ⟨_,_,_,rfl⟩:=zae hh.1;rfl
 have hC:Chk (w.alloc (.cells #[.bool false,.int .i64 0] 140)) w.heap.size none:=Blk.new w [.bool false,.int .i64 0] _;have dE:=zag w (.cells #[.bool false,.int .i64 0] 140) none;have fj:=zab (zdS (ju.gb dE (by simp)) h1 h2 bR (by omega));have eM:=zan hr;obtain ⟨sa,sn,sc,rfl⟩:=zae hr;have fD:Hid (sn=l.length):=zab (by
  rcases hr.1.2 with ⟨h,h0⟩|⟨_,_,_,h0,_⟩
  ·cases h;exact h0.symm
  ·cases h0;rfl)
 have HC:=zab hC;have HR:=zab ju;have dT:=zab nW;have H1:=zab h1;have H2:=zab h2;have oz:=zab hin;clear hr ju aR nW h1 h2 hin bR hC dE aL;go_enter func42,ntmps42
 go_wp2_with fail
 refine fj.o.mono ?_;rintro en w1 ⟨tv,rfl,eC,aA⟩;obtain ⟨ta,tn,tc,rfl⟩:=zae (Row.zaE eC);have hz:w.heap.size<w1.heap.size:=zyS HC.o.lt aA.size;have lR:=zab (HC.o.below aA);have gY:=zab (zad (zag w (.cells #[.bool false,.int .i64 0] 140) (some w.heap.size)) (zaf (some w.heap.size) aA));have vD:=zab (zaf (some w.heap.size) aA);have HT:Hid (w1.ownsRow (w.heap.size+1) 9 1 (.slice ta tn tc) l.length (strCells (Th.zaq l))):=zab (by
  have:=eC;rw[show (w.alloc (.cells #[.bool false,.int .i64 0] 140)).heap.size=w.heap.size+1 by simp]at this;exact this)
 clear eC aA fj HC;go_wp2_with fail
 have aK:=fD.o;subst aK
 go_loopg [14] l.length (fun gk i wr=>∃ k:Nat,i=.int .i64 k/\k<=l.length/\l.length-k<=gk/\Chk wr w.heap.size (Th.zbL n (Th.zaq l) [] (l.take k)).head?/\w1.grownBy wr (some w.heap.size))
 case atStart=>exact ⟨0,rfl,zy5 _,by omega,lR.o,zcT _ _⟩
 case round=>
  obtain ⟨k,rfl,hk,jm,fV,hg⟩:=hrel;have jQ:=zab fV;have Hg:=zab hg;have cT:=hg.size;by_cases aj:k<l.length
  ·obtain ⟨g,jw⟩:∃ g,sa=some ⟨g,0,none⟩:=by
    rcases eM with h|⟨g,cap,h⟩
    ·have:=(Value.slice.inj h).2.1;omega
    ·exact ⟨g,(Value.slice.inj h).1⟩
   subst jw;have ib:=HT.o;obtain ⟨g2,tf⟩:∃ g2,ta=some ⟨g2,0,none⟩/\tn=l.length:=by
    rcases zan (Row.zaE ib) with h|⟨g2,cap,h⟩
    ·rcases ib.2 with ⟨_,h0⟩|⟨_,_,_,h0,_⟩
     ·omega
     ·rw[h]at h0;cases h0
    ·cases h;exact ⟨g2,rfl,rfl⟩
   obtain ⟨rfl,rfl⟩:=tf;have fq:=zad gY.o hg;have jT:¬ ((fun b=>b<w.heap.size) w.heap.size):=Nat.lt_irrefl _;obtain ⟨x,jM⟩:∃ x,l[k]?=some x:=⟨l[k],zyM aj⟩;obtain ⟨nv,ay⟩:∃ nv,nvs[k]?=some nv:=⟨_,zyM (by rw[H1.o];exact aj)⟩;obtain ⟨bv,cC⟩:∃ bv,bvs[k]?=some bv:=⟨_,zyM (by rw[H2.o];exact aj)⟩;have eH:=(dT.o k x nv bv jM ay cC).1.gb fq (fun j hj=>by cases hj;exact jT);have aR:=(dT.o k x nv bv jM ay cC).2.gb fq (fun j hj=>by cases hj;exact jT);obtain ⟨pt,px,rfl⟩:=zah aR;obtain ⟨na,nn,nc,rfl⟩:=zae eH;have aE:=zcm l nvs bvs k x _ _ jM ay cC;have af:=(HR.o.gb fq (fun j hj=>by cases hj;exact jT)).1;have c0:=(af.cellAt (k*4) (by omega)).trans aE.1;have c1:=(af.cellAt (k*4+1) (by omega)).trans aE.2.1;have c2:=(af.cellAt (k*4+2) (by omega)).trans aE.2.2.1;have c3:=(af.cellAt (k*4+3) (by omega)).trans aE.2.2.2;have fX:=(af.lt g rfl).2;obtain ⟨m0,m1,m2,bJ,hin,dq⟩:=ziY oz.o k x jM;have kT:l.length<=tc:=by
    rcases ib.2 with ⟨h0,_⟩|⟨_,_,_,h0,_,_,hn,_⟩
    ·cases h0
    ·cases h0;exact hn
   have dF:(0:Int)<=(k:Int):=zzN _;have cK:(k:Int)<=(tc:Int):=by omega
   have kL:=ib.kept hg (zdi ib (Nat.lt_succ_self _));have gl:=zg6 kL (i:=k) (by omega);rw[show (strCells (Th.zaq l)).take k=strCells (Th.zaq (l.take k)) by simp[strCells,Th.zaq]]at gl;have oE:Hid (wr.ownsRow (w.heap.size+1) 9 1 (.slice (some ⟨g2,0,none⟩) k tc) (Th.zaq (l.take k)).length (strCells (Th.zaq (l.take k)))):=zab (by
    rw[show (Th.zaq (l.take k)).length=k by simp[Th.zaq];omega];exact gl)
   have CZ:Hid (Row (fun b=>w.heap.size+1<=b) wr 9 1 (.slice (some ⟨g2,0,none⟩) l.length tc) (Th.zaq l).length (strCells (Th.zaq l))):=zab (by
    rw[show (Th.zaq l).length=l.length by simp[Th.zaq]];exact Row.zaE kL)
   have dn:=zab (fun (W:World) (hW:Chk W w.heap.size (Th.zbL n (Th.zaq l) [] (l.take k)).head?) (hR:W.ownsRow (w.heap.size+1) 9 1 (.slice (some ⟨g2,0,none⟩) k tc) (Th.zaq (l.take k)).length (strCells (Th.zaq (l.take k))))=>zgW hW ⟨x.name.s.toArray⟩ x.name.at_ hR (by simp[Th.zaq];omega));have Ht:=zab (zaJ jM);have Hd:Hid ((Th.zbL n (Th.zaq l) [] (l.take (k+1))).head?=after (after (after (Th.zbL n (Th.zaq l) [] (l.take k)).head? (if (Th.zaq (l.take k)).contains x.name.s then [x.name.at_] else [])) (Th.zjc [] x.params)) (Th.zar n x.e (Th.zaq l++Th.texts x.params))):=zab (by
    rw[Ht.o,zkn,<-zaQ,<-zaQ];simp only[zzb,zzk];cases Th.zbL n (Th.zaq l) [] (l.take k) <;> rfl)
   have GP:x.params.length<=100000:=by have:=bJ.len;have:=hin.le;omega
   have HX:=zab (fun (W:World) (o:Option Nat) (av:Value) (B:Nat->Prop) (hW:Chk W w.heap.size o) (sj:wr.grownBy W (some w.heap.size)) (hB:Row B W 9 1 av (Th.zaq l++Th.texts x.params).length (strCells (Th.zaq l++Th.texts x.params))) (DS:¬ B w.heap.size)=>zqq n W w.heap.size o _ x.e av _ _ B m m1 m2 hW (aR.gb sj (fun j hj=>by cases hj;exact jT)) hin hB jT DS (by have:=bJ.len;simp[Th.zaq,Th.texts];omega));have HD:=zab (fun (W:World) (o:Option Nat) (hW:Chk W w.heap.size o) (sj:wr.grownBy W (some w.heap.size))=>zia hW (eH.gb sj (fun j hj=>by cases hj;exact jT)) jT (by omega));have C6:=zab (fun (W:World) (sj:wr.grownBy W (some w.heap.size))=>ze4 (eH.gb sj (fun j hj=>by cases hj;exact jT)) (by omega));have pV:Hid (w.heap.size≠wr.heap.size):=zab (by omega);have HF:=zab (Blk.new wr [.string ⟨x.name.s.toArray⟩,.int .i64 x.name.at_,.slice na nn nc,.iface pt px] 93);clear fV hg jM ay cC fq aR eH aE af bJ hin dq ib kL gl eM fD;go_wp2_with fail
   go_region_with (go_at_call 69;refine (dn.o _ ?_ ?_).mono ?_;exact Blk.drew (Blk.alloc jQ.o _);exact (oE.o.alloc _).drew;rintro e w3 ⟨rfl,h3,aS⟩;have H3:=zab h3;have gC:=zab (zad (zad (zag wr (.cells #[.string ⟨x.name.s.toArray⟩,.int .i64 x.name.at_,.slice na nn nc,.iface pt px] 93) _) (zbO _ _)) aS);have qs:=zab (Blk.grown (Blk.drew HF.o) aS (by intro h;injection h with h;exact pV.o h.symm));clear h3 aS)
   all_goals
    have p2:=Blk.cell qs.o 2;simp at p2;go_wp2_with fail
    refine (HD.o w3 _ H3.o gC.o).mono ?_;rintro en w4 ⟨rfl,jj,bM⟩;have gZ:=zab (zad gC.o bM);have pF:=zab (Blk.grown qs.o bM (by intro h;injection h with h;exact pV.o h.symm));have yP:=zab jj;have q2:=Blk.cell pF.o 2;have q3:=Blk.cell pF.o 3;have bV:=pF.o.lt;simp at q2 q3;clear jj bM p2 H3 gC qs HD c0 c1 c2 c3;go_wp2_with fail
    go_region_with (first
     |(go_at_call 52;refine (C6.o _ ?_).mono ?_;exact zad gZ.o (zbO _ _);rintro Gi w5 ⟨Hj,rfl,h5,b5⟩;obtain ⟨xa,xn,xc,rfl⟩:=zae (Row.zaE h5);have lS:=zab (zad (zad gZ.o (zbO _ _)) (zaf (some w.heap.size) b5));have yQ:=zab ((Blk.drew yP.o).below b5 yP.o.lt);have vz:=zab ((Blk.drew pF.o).below b5 bV);have r3:=Blk.cell vz.o 3;have fC:w4.heap.size<=w5.heap.size:=b5.size;have GH:wr.heap.size<w5.heap.size:=zyS bV fC;have C0:Hid (w5.ownsRow w4.heap.size 9 1 (.slice xa xn xc) (Th.texts x.params).length (strCells (Th.texts x.params))):=zab (by simpa [Th.texts] using h5);simp at r3;clear h5 b5)
     |(go_at_call 72;refine (zfs (CZ.o.gb lS.o (fun j hj=>by cases hj;exact Nat.not_succ_le_self _)) (Row.zaE C0.o) (by simp[Th.zaq];omega) (by simp[Th.texts];omega)).mono ?_;rintro Gj w6 ⟨ka,kn,kc,rfl,h6,b6⟩;have kb:=zab (zad lS.o (zaf (some w.heap.size) b6));have BH:=zab (yQ.o.below b6 yQ.o.lt);have Cj:=zab h6;have s3:=Blk.cell (vz.o.below b6 vz.o.lt) 3;simp at s3;clear h6 b6)
     |(go_at_call 71;refine (HX.o w6 _ _ _ BH.o kb.o Cj.o ?_).mono ?_;exact fun (h:w5.heap.size<=w.heap.size)=>absurd h (by omega);rintro Gk w7 ⟨rfl,h7,g7⟩;have BI:=zab h7;have qv:=zab (zad kb.o g7);clear h7 g7))
    all_goals
     go_wp2_with fail
     go_roundg (l.length-(k+1))
     case measure=>omega
     case rel=>
      refine ⟨k+1,by go_num,by omega,zyN _,?_,zad Hg.o qv.o⟩;rw[Hd.o];exact BI.o
  ·have aG:k=l.length:=by omega
   have Hk:=zab aG;have c0:=Blk.cell fV 0;have c1:=Blk.cell fV 1;simp at c0 c1;have Cc:=zab (zsG (o:=.cells #[.bool false,.int .i64 0] 140) (zad vD.o hg));rw[aG,zy9 (zyN _)]at c0 c1;obtain ⟨hd,kh⟩:∃ hd,(Th.zbL n (Th.zaq l) [] l).head?=hd:=⟨_,rfl⟩;rw[kh]at c0 c1;have ox:=zab kh;clear kh;clear fV hg aG jQ;cases hd
   all_goals
    simp at c0 c1;go_wp2_with fail
    go_region_with fail
    all_goals
     go_wp2_with fail
     go_ret2
     refine ⟨by rw[ox.o];kernel_rfl,zbk (zad (zaf none Cc.o) (zbO _ _))⟩
def Th.zbl:List Th.zbr->Bool
 |[]=>false
 |x::r=>if x.name.s == Th.zcO then x.params.isEmpty else Th.zbl r
theorem zid:∀ (l:List Th.zbr) (k:Nat) (x:Th.zbr),(∀ y∈l.take k,y.name.s≠Th.zcO)->l[k]?=some x->x.name.s=Th.zcO->Th.zbl l=x.params.isEmpty
 |[],k,x,_,h,_=>by simp at h
 |y::l,0,x,_,h,hx=>by
  simp only[zzl,zyP]at h;subst h;simp[Th.zbl,hx]
 |y::l,k+1,x,hn,h,hx=>by
  have h1:y.name.s≠Th.zcO:=hn y (by simp);simp only[Th.zbl];rw[if_neg (by simpa using h1)];exact zid l k x (fun z hz=>hn z (by simp[hz])) (by simpa using h) hx
theorem zf7:∀ (l:List Th.zbr),(∀ y∈l,y.name.s≠Th.zcO)->Th.zbl l=false
 |[],_=>rfl
 |y::l,hn=>by
  have h1:y.name.s≠Th.zcO:=hn y (by simp);simp only[Th.zbl];rw[if_neg (by simpa using h1)];exact zf7 l (fun z hz=>hn z (by simp[hz]))
theorem zpv{pv:Value}{l:List Th.zbr}{nvs bvs:List Value}{S1 S2:Nat->Prop}(hr:Row S1 w 93 4 pv l.length (zaR l nvs bvs))(h1:nvs.length=l.length)(h2:bvs.length=l.length)(aR:zdv S2 w m l nvs bvs)(lp:l.length<=100000):
  Calls prog 43 #[pv] w fun e w'=>e=.returned (.bool (Th.zbl l))/\Below w.heap.size w w':=by
 have eM:=zan hr;obtain ⟨sa,sn,sc,rfl⟩:=zae hr;have fD:Hid (sn=l.length):=zab (by
  rcases hr.1.2 with ⟨h,h0⟩|⟨_,_,_,h0,_⟩
  ·cases h;exact h0.symm
  ·cases h0;rfl)
 have HR:=zab hr;have dT:=zab aR;have H1:=zab h1;have H2:=zab h2;clear hr aR h1 h2;go_enter func43,ntmps43
 go_wp2_with fail
 have aK:=fD.o;subst aK
 go_loopg [7] l.length (fun gk i wr=>∃ k:Nat,i=.int .i64 k/\k<=l.length/\l.length-k<=gk/\(∀ y∈l.take k,y.name.s≠Th.zcO)/\Below w.heap.size w wr)
 case atStart=>exact ⟨0,rfl,zy5 _,by omega,by simp,Below.refl _ _⟩
 case round=>
  obtain ⟨k,rfl,hk,jm,bu,hg⟩:=hrel;have Hg:=zab hg;have bW:=zab bu;have cT:=hg.size;by_cases aj:k<l.length
  ·obtain ⟨g,jw⟩:∃ g,sa=some ⟨g,0,none⟩:=by
    rcases eM with h|⟨g,cap,h⟩
    ·have:=(Value.slice.inj h).2.1;omega
    ·exact ⟨g,(Value.slice.inj h).1⟩
   subst jw;obtain ⟨x,jM⟩:∃ x,l[k]?=some x:=⟨l[k],zyM aj⟩;obtain ⟨nv,ay⟩:∃ nv,nvs[k]?=some nv:=⟨_,zyM (by rw[H1.o];exact aj)⟩;obtain ⟨bv,cC⟩:∃ bv,bvs[k]?=some bv:=⟨_,zyM (by rw[H2.o];exact aj)⟩;have fq:=zaf none hg;have eH:=(dT.o k x nv bv jM ay cC).1.gb fq (by simp);have aR:=(dT.o k x nv bv jM ay cC).2.gb fq (by simp);obtain ⟨pt,px,rfl⟩:=zah aR;obtain ⟨na,nn,nc,rfl⟩:=zae eH;have iZ:nn=x.params.length:=by
    rcases eH.1.2 with ⟨h,h0⟩|⟨_,_,_,h0,_⟩
    ·cases h;exact h0.symm
    ·cases h0;rfl
   have aE:=zcm l nvs bvs k x _ _ jM ay cC;have af:=(HR.o.gb fq (by simp)).1;have c0:=(af.cellAt (k*4) (by omega)).trans aE.1;have c1:=(af.cellAt (k*4+1) (by omega)).trans aE.2.1;have c2:=(af.cellAt (k*4+2) (by omega)).trans aE.2.2.1;have c3:=(af.cellAt (k*4+3) (by omega)).trans aE.2.2.2;have fX:=(af.lt g rfl).2;have Db:=zab jM;by_cases hx:x.name.s=Th.zcO
   ·have HX:=zab hx;have uP:Hid (x.params.isEmpty=decide (nn=0)):=zab (by rw[iZ];cases x.params <;> rfl);rw[show (x.name.s.toArray)=#[109,97,105,110] by rw[hx];rfl]at c0;clear bu hg jM ay cC fq aR eH aE af eM fD hx iZ;go_wp2_with fail
    go_ret
    refine ⟨?_,zbk (zad (zaf none Hg.o) (zag _ _ _))⟩;rw[zid l k x bW.o Db.o HX.o,uP.o];show Ending.returned (.bool ((nn:Int) == 0))=Ending.returned (.bool (decide (nn=0)));congr 2;rw[zAa];simp
   ·have HX:=zab hx;have aH:(x.name.s == [109,97,105,110])=false:=by
     rw[beq_eq_false_iff_ne];exact hx
    have Ht:=zab (zaJ jM);clear bu hg jM ay cC fq aR eH aE af eM fD hx iZ;go_wp2_with fail
    go_roundg (l.length-(k+1))
    case measure=>omega
    case rel=>
     refine ⟨k+1,by go_num,by omega,zyN _,?_,zbk (zad (zaf none Hg.o) (zag _ _ _))⟩;rw[Ht.o];intro y hy;rcases zzi.1 hy with hy|hy
     ·exact bW.o y hy
     ·rw[zze.1 hy];exact HX.o
  ·have aG:k=l.length:=by omega
   have Hk:=zab aG;clear bu hg aG;go_wp2_with fail
   go_ret
   refine ⟨?_,Hg.o⟩;have ho:=bW.o;rw[Hk.o,zy9 (zyN _)]at ho;rw[zf7 l ho];rfl
end Go.Proofs.YtgahgkddaljmkaaGreatDoor
namespace Go.Proofs.YtgahgkddaljmkaaGreatDoor
open Tryz
open Go.RowKit
structure Plain (s:ByteArray) (q:List Th.zbr × Th.St) (N:Nat):Prop where
 zct:Good (zay s)
 ne:zay s≠[]
 lines:∃ n k,n<=1000000/\k<=1000000/\Th.zcn (Th.zdJ n) k [] ⟨zay s,none⟩=some q
 within:q.2.bad=none->∃ lo hi,Th.zbM N lo hi q.1/\hi-lo<=100000
def answer (size:Nat) (q:List Th.zbr × Th.St) (N:Nat):Nat × Nat:=
 match q.2.bad with
 |some p=>(2,p)
 |none=>match (Th.zbL N (Th.zaq q.1) [] q.1).head? with
  |some p=>(3,p)
  |none=>if Th.zbl q.1 then (0,0) else (4,size)
def zl2 (s:ByteArray) (q:List Th.zbr × Th.St) (N:Nat) (w:World) (e:Ending) (w':World):Prop:=
 Below w.heap.size w w'/\∃ pv,e=.returned (.tuple #[pv,.int .i64 (answer s.size q N).1,.int .i64 (answer s.size q N).2])/\(∃ a k c,pv=.slice a k c)/\((answer s.size q N).1=0->ziZ (zat w) w' pv q.1)
theorem zob{s:ByteArray}(h:600<s.size)(w:World):
  Calls prog 33 #[.string s] w fun e w'=>e=.returned (.tuple #[.slice none 0 0,.int .i64 1,.int .i64 0])/\w'=w:=by
 have hz:(600:Int)<(s.size:Int):=by omega
 go_enter func33,ntmps33
 go_wp2_with fail
 go_ret3
 exact ⟨rfl,rfl⟩
theorem zmH{s:ByteArray}{q:List Th.zbr × Th.St}{N:Nat}(hs:s.size<=600)(hp:Plain s q N)(w:World):
  Calls prog 33 #[.string s] w fun e w'=>zl2 s q N w e w':=by
 have hz:¬ ((600:Int)<(s.size:Int)):=by omega
 obtain ⟨n,k,hn,hk,hq⟩:=hp.lines;have dn:=zab (zpJ zri s w hs hp.zct hp.ne n k hn hk q hq);have HP:=zab hp;clear hp hq;go_enter func33,ntmps33
 go_wp2_with fail
 refine dn.o.mono ?_;rintro e w1 ⟨hb,hh⟩;have Hb:=zab hb;clear hb dn;rcases hh with ⟨p,aQ,rfl⟩|⟨aQ,pv,rfl,aR⟩
 ·have HB:=zab aQ;clear aQ;go_wp2_with fail
  go_ret3
  refine ⟨Hb.o,.slice none 0 0,?_,⟨_,_,_,rfl⟩,fun h=>?_⟩
  ·simp only[answer,HB.o];rfl
  ·simp only[answer,HB.o]at h;cases h
 ·have HB:=zab aQ;obtain ⟨lo,hi,hin,dq⟩:=HP.o.within aQ;obtain ⟨nvs,bvs,m,h1,h2,af,jY⟩:=aR;obtain ⟨pa,pk,pc,rfl⟩:=zae af;have fE:=zab (zkA af h1 h2 jY hin dq);have lp:q.1.length<=100000:=by have:=zec hin;omega
  have eP:=zab (fun (W:World) (hW:Below w1.heap.size w1 W)=>zpv (af.gb (zaf none hW) (by simp)) h1 h2 (fun i x nv bv a b c=>⟨(jY i x nv bv a b c).1.gb (zaf none hW) (by simp),(jY i x nv bv a b c).2.gb (zaf none hW) (by simp)⟩) lp);have Dm:=zab (fun (W:World) (hW:Below w1.heap.size w1 W)=>(⟨nvs,bvs,m,h1,h2,af.gb (zaf none hW) (by simp),fun i x nv bv a b c=>⟨(jY i x nv bv a b c).1.gb (zaf none hW) (by simp),(jY i x nv bv a b c).2.gb (zaf none hW) (by simp)⟩⟩:ziZ (zat w) W (.slice pa pk pc) q.1));clear aQ hin dq af h1 h2 jY lp;go_wp2_with fail
  refine fE.o.mono ?_;rintro e w2 ⟨rfl,aw⟩;have cO:=zab aw;have jN:=zab (eP.o w2 aw);clear aw fE eP;obtain ⟨hd,kh⟩:∃ hd,(Th.zbL N (Th.zaq q.1) [] q.1).head?=hd:=⟨_,rfl⟩;rw[kh];have ox:=zab kh;clear kh;have yO:Hid (Below w.heap.size w w2):=zab (zbk (zad (zaf none Hb.o) (zaf none cO.o)));cases hd with
  |some p=>
   simp only[zAs,Option.isSome_some];go_wp2_with fail
   go_ret3
   refine ⟨yO.o,.slice none 0 0,?_,⟨_,_,_,rfl⟩,fun h=>?_⟩
   ·simp only[answer,HB.o,ox.o];rfl
   ·simp only[answer,HB.o,ox.o]at h;cases h
  |none=>
   simp only[Option.getD_none,Option.isSome_none];go_wp2_with fail
   refine jN.o.mono ?_;rintro e w3 ⟨rfl,bD⟩;have mw:Hid (Below w.heap.size w w3):=zab (zbk (zad (zaf none yO.o) (zaf none bD)));have Cy:=zab (Dm.o w3 (zbk (zad (zaf none cO.o) (zaf none bD))));clear bD jN;cases hm:Th.zbl q.1
   ·have HM:=zab hm;clear hm;go_wp2_with fail
    go_ret3
    refine ⟨mw.o,.slice none 0 0,?_,⟨_,_,_,rfl⟩,fun h=>?_⟩
    ·simp only[answer,HB.o,ox.o,HM.o];rfl
    ·simp only[answer,HB.o,ox.o,HM.o]at h;cases h
   ·have HM:=zab hm;clear hm;go_wp2_with fail
    go_ret3
    refine ⟨mw.o,.slice pa pk pc,?_,⟨_,_,_,rfl⟩,fun _=>Cy.o⟩;simp only[answer,HB.o,ox.o,HM.o];rfl
end Go.Proofs.YtgahgkddaljmkaaGreatDoor
namespace Go.Proofs.YtgahgkddaljmkaaGreatDoor.Th
open Tryz
def mu (st:St):Nat:=if st.bad.isNone then st.rest.length+1 else 0
theorem zxy(st:St):mu st.fail=0:=by
 unfold mu St.fail;cases h:st.bad <;> simp[h]
theorem ziM(st:St):st.fail.bad≠none:=by
 unfold St.fail;cases h:st.bad <;> simp[h]
variable {s:List UInt8}
variable {st:St}
theorem zdg(h:st.is s=true)(hs:s≠[]):st.bad=none/\∃ t r,st.rest=t::r/\t.s=s:=by
 unfold St.is St.hd at h;simp only[zzv,Option.isNone_iff_eq_none,beq_iff_eq]at h;refine ⟨h.1,?_⟩;cases hr:st.rest with
 |nil=>
  rw[hr]at h;exact absurd h.2.symm hs
 |cons t r=>
  rw[hr]at h;exact ⟨t,r,rfl,h.2⟩
variable {k:Nat}
theorem zeT(h:st.kind k=true)(hk:k≠0):st.bad=none/\∃ t r,st.rest=t::r/\t.k=k:=by
 unfold St.kind St.hd at h;simp only[zzv,Option.isNone_iff_eq_none,beq_iff_eq]at h;refine ⟨h.1,?_⟩;cases hr:st.rest with
 |nil=>
  rw[hr]at h;exact absurd h.2.symm hk
 |cons t r=>
  rw[hr]at h;exact ⟨t,r,rfl,h.2⟩
variable {lo M:Nat}
variable {l:List Tok}
theorem zcx.down{dL:Nat}(h:zcx lo M l)(hl:dL<=lo):zcx dL M l:=by
 cases l with
 |nil=>exact zyR hl h
 |cons t r=>exact ⟨zyR hl h.1,h.2⟩
theorem zcx.tail{t:Tok}(h:zcx lo M (t::l)):zcx (lo+1) M l:=h.2.down (by have:=h.1;omega)
structure Step (d:Nat) (st st':St):Prop where
 mu:mu st'+d<=mu st\/Th.mu st'=0
 bad:st'.bad=none->st.bad=none
 zni:∀ lo M,zcx lo M st.rest->st'.bad=none->zcx (lo+d) M st'.rest
variable {d:Nat}
variable {a b:St}
theorem Step.le(h:Step d a b):Th.mu b<=Th.mu a:=by
 rcases h.mu with h|h <;> omega
variable {d':Nat}
variable {c:St}
theorem Step.trans(h:Step d a b)(k:Step d' b c):Step (d+d') a c:=by
 refine ⟨?_,fun hc=>h.bad (k.bad hc),fun lo M hr hc=>?_⟩
 ·rcases h.mu with h1|h1 <;> rcases k.mu with k1|k1
  ·exact .inl (by omega)
  ·exact .inr k1
  ·exact .inr (by omega)
  ·exact .inr k1
 ·have:=k.zni (lo+d) M (h.zni lo M hr (k.bad hc)) hc;rw[Nat.add_assoc]at this;exact this
theorem Step.zkl(h:Step d a b)(hd:d'<=d):Step d' a b:=
 ⟨by rcases h.mu with h|h;exact .inl (by omega);exact .inr h,h.bad,fun lo M hr hc=>(h.zni lo M hr hc).down (by omega)⟩
theorem Step.refl(st:St):Step 0 st st:=⟨.inl (zyN _),id,fun _ _ h _=>h⟩
theorem zhb(d:Nat)(st:St):Step d st st.fail:=⟨.inr (zxy st),fun h=>absurd h (ziM st),fun _ _ _ h=>absurd h (ziM st)⟩
theorem zqV{t:Tok}{r:List Tok}(hb:st.bad=none)(hr:st.rest=t::r):Step 1 st st.adv:=by
 refine ⟨.inl ?_,fun _=>hb,fun lo M h _=>?_⟩
 ·simp[Th.mu,St.adv,hb,hr]
 ·rw[hr]at h;simp only[St.adv,hr,List.tail_cons];exact h.tail
theorem zcC(h:st.is s=true)(hs:s≠[]):Step 1 st st.adv:=by
 obtain ⟨hb,t,r,hr,_⟩:=zdg h hs;exact zqV hb hr
theorem zhc(h:st.kind k=true)(hk:k≠0):Step 1 st st.adv:=by
 obtain ⟨hb,t,r,hr,_⟩:=zeT h hk;exact zqV hb hr
theorem zbE(hs:s≠[])(st:St):Step 1 st (want s st):=by
 unfold want;split
 ·rename_i h;exact zcC h hs
 ·exact zhb _ _
theorem zhX(st:St):Step 1 st (zaL st).2:=by
 unfold zaL;split
 ·rename_i h;exact zhc h (by decide)
 ·exact zhb _ _
theorem ze0(a b:Nat)(st:St):Step 1 st (zaB a b st).2:=by
 unfold zaB;split
 ·rename_i h;simp only[zzv]at h;exact zhc h.1.1 (by decide)
 ·exact zhb _ _
theorem zmF(h:zcx lo M st.rest)(hb:(zaL st).2.bad=none):lo<=(zaL st).1.at_/\zcx ((zaL st).1.at_+1) M (zaL st).2.rest:=by
 unfold zaL at hb ⊢;split at hb
 ·rename_i hk;rw[if_pos hk];obtain ⟨_,t,r,hr,_⟩:=zeT hk (by decide);rw[hr]at h;simp only[St.hd,St.adv,hr,List.headD_cons,List.tail_cons];exact h
 ·exact absurd hb (ziM st)
theorem zgc(p:Tok->Bool):∀ {lo M:Nat} {l:List Tok},zcx lo M l->∃ m,zcx lo m (l.takeWhile p)/\zcx m M (l.dropWhile p)
 |lo,M,[],h=>⟨lo,zyN lo,h⟩
 |lo,M,t::l,h=>by
  by_cases ht:p t=true
  ·obtain ⟨m,h1,h2⟩:=zgc p h.2;simp only[List.takeWhile_cons,List.dropWhile_cons,ht,if_true];exact ⟨m,⟨h.1,h1⟩,h2⟩
  ·simp only[List.takeWhile_cons,List.dropWhile_cons,ht];exact ⟨lo,zyN lo,h⟩
theorem zg8(h:zcx lo M st.rest)(hb:(zax st).2.bad=none):∃ m,zcx lo m (zax st).1/\zcx m M (zax st).2.rest:=by
 unfold zax at hb ⊢;split at hb
 ·rename_i hk;rw[if_pos hk];exact zgc _ h
 ·rename_i hk;rw[hb]at hk;simp at hk
theorem zgu(st:St):Step 0 st (zax st).2:=by
 refine ⟨.inl ?_,?_,fun lo M h hb=>?_⟩
 ·unfold zax;split
  ·rename_i hk;simp only[Th.mu,hk,if_true,Option.isNone_none];have:=(List.dropWhile_sublist (l:=st.rest) (fun t:Tok=>t.k == 2)).length_le;omega
  ·exact zyN _
 ·unfold zax;split
  ·rename_i hk;intro _;simpa using hk
  ·exact id
 ·obtain ⟨m,h1,h2⟩:=zg8 h hb;exact h2.down (by have:=h1.len;omega)
theorem zbd.imp{P Q:Ex->Nat->Nat->Prop}(h:∀ e lo hi,P e lo hi->Q e lo hi):∀ {lo hi:Nat} {l:List Tok} {es:List Ex},zbd P lo hi l es->zbd Q lo hi l es
 |_,_,[],[],k=>k
 |_,_,_::_,_::_,⟨k1,m,k2,k3⟩=>⟨k1,m,h _ _ _ k2,zbd.imp h k3⟩
 |_,_,[],_::_,k=>k.elim
 |_,_,_::_,[],k=>k.elim
theorem zcb.imp{P Q:Ex->Nat->Nat->Prop}(h:∀ e lo hi,P e lo hi->Q e lo hi):∀ {lo hi:Nat} {l:List (Nat × List Tok)} {es:List Ex},zcb P lo hi l es->zcb Q lo hi l es
 |_,_,[],[],k=>k
 |_,_,_::_,_::_,⟨m1,m2,k1,k2,k3⟩=>⟨m1,m2,k1,h _ _ _ k2,zcb.imp h k3⟩
 |_,_,[],_::_,k=>k.elim
 |_,_,_::_,[],k=>k.elim
theorem In.succ:∀ (n:Nat) (e:Ex) (lo hi:Nat),In n e lo hi->In (n+1) e lo hi
 |0,_,_,_,h=>h.elim
 |n+1,e,lo,hi,h=>by
  have ih:=In.succ n;refine ⟨h.1,?_⟩;rcases h.2 with h|h|⟨hk,b,m,h1,h2,h3⟩|⟨hk,e1,e2,m,h1,h2,h3⟩|⟨hk,b,ps,m,h1,h2,h3⟩|⟨hk,b,bs,m,h1,h2,h3⟩
  ·exact .inl h
  ·exact .inr (.inl h)
  ·exact .inr (.inr (.inl ⟨hk,b,m,h1,h2,ih _ _ _ h3⟩))
  ·exact .inr (.inr (.inr (.inl ⟨hk,e1,e2,m,h1,ih _ _ _ h2,ih _ _ _ h3⟩)))
  ·exact .inr (.inr (.inr (.inr (.inl ⟨hk,b,ps,m,h1,h2.imp ih,ih _ _ _ h3⟩))))
  ·exact .inr (.inr (.inr (.inr (.inr ⟨hk,b,bs,m,h1,ih _ _ _ h2,h3.imp ih⟩))))
variable {n m:Nat}
variable {e:Ex}
variable {hi:Nat}
theorem In.mono(h:In n e lo hi)(hm:n<=m):In m e lo hi:=by
 induction hm with
 |refl=>exact h
 |step _ ih=>exact In.succ _ _ _ _ ih
variable {P:Ex->Nat->Nat->Prop}
theorem zbd.down{dL:Nat}{es:List Ex}(h:zbd P lo hi l es)(hl:dL<=lo):zbd P dL hi l es:=by
 cases l <;> cases es
 ·exact zyR hl h
 ·exact h.elim
 ·exact h.elim
 ·exact ⟨zyR hl h.1,h.2⟩
theorem In.down:∀ {n:Nat} {e:Ex} {lo dL hi:Nat},In n e lo hi->dL<=lo->In n e dL hi
 |0,_,_,_,_,h,_=>h.elim
 |n+1,e,lo,dL,hi,h,hl=>by
  refine ⟨zyR hl h.1,?_⟩;rcases h.2 with h|h|⟨hk,b,m,h1,h2,h3⟩|⟨hk,e1,e2,m,h1,h2,h3⟩|⟨hk,b,ps,m,h1,h2,h3⟩|⟨hk,b,bs,m,h1,h2,h3⟩
  ·exact .inl h
  ·exact .inr (.inl ⟨h.1,zyR hl h.2.1,h.2.2⟩)
  ·exact .inr (.inr (.inl ⟨hk,b,m,h1,h2.down hl,h3⟩))
  ·exact .inr (.inr (.inr (.inl ⟨hk,e1,e2,m,h1,h2.down hl,h3⟩)))
  ·exact .inr (.inr (.inr (.inr (.inl ⟨hk,b,ps,m,h1,h2.down hl,h3⟩))))
  ·exact .inr (.inr (.inr (.inr (.inr ⟨hk,b,bs,m,h1,h2.down hl,h3⟩))))
structure zd9 (d:Nat) (st:St) (e:Ex) (st':St):Prop where
 step:Step d st st'
 inn:∀ lo M,zcx lo M st.rest->st'.bad=none->∃ N hi,In N e lo hi/\zcx hi M st'.rest
theorem zd9.zkl{d d':Nat}{st st':St}{e:Ex}(h:zd9 d st e st')(hd:d'<=d):zd9 d' st e st':=⟨h.step.zkl hd,h.inn⟩
theorem zd9.pre(h:Step d a b)(k:zd9 d' b e c):zd9 (d+d') a e c:=
 ⟨h.trans k.step,fun lo M hr hc=>by
  obtain ⟨N,hi,h1,h2⟩:=k.inn _ M (h.zni lo M hr (k.step.bad hc)) hc;exact ⟨N,hi,h1.down (by omega),h2⟩⟩
theorem zd9.post(h:zd9 d a e b)(k:Step d' b c):zd9 (d+d') a e c:=
 ⟨h.step.trans k,fun lo M hr hc=>by
  obtain ⟨N,hi,h1,h2⟩:=h.inn lo M hr (k.bad hc);exact ⟨N,hi,h1,(k.zni _ M h2 hc).down (by omega)⟩⟩
theorem zd9.fail(d:Nat)(st:St)(e:Ex):zd9 d st e st.fail:=⟨zhb d st,fun _ _ _ h=>absurd h (ziM st)⟩
theorem znQ{st':St}(h:Step d st st')(hk:e.kind=1\/e.kind=3):zd9 d st e st':=
 ⟨h,fun lo M hr hc=>⟨1,lo,⟨zyN _,.inl hk⟩,(h.zni lo M hr hc).down (by omega)⟩⟩
theorem zml{e1 e2:Ex}(hk:e.kind=5\/e.kind=6)(he:e.kids=[e1,e2])(h:zd9 d a e1 b)(k:zd9 d' b e2 c):zd9 (d+d') a e c:=
 ⟨h.step.trans k.step,fun lo M hr hc=>by
  obtain ⟨N1,m,h1,h2⟩:=h.inn lo M hr (k.step.bad hc);obtain ⟨N2,hi,k1,k2⟩:=k.inn m M h2 hc;exact ⟨max N1 N2+1,hi,⟨zyR h1.le k1.le,.inr (.inr (.inr (.inl ⟨hk,e1,e2,m,he,h1.mono (by omega),k1.mono (by omega)⟩)))⟩,k2⟩⟩
theorem zrt(st:St):zd9 1 st (zdj st).1 (zdj st).2:=
 znQ ((((ze0 1 99 st).trans (zbE (s:=[44]) (by simp) _)).trans (ze0 0 9 _)).trans (zbE (s:=[125]) (by simp) _)|>.zkl (by omega)) (.inr rfl)
theorem zs6(h:st.kind 2=true):zd9 1 st (zbW st.hd) st.adv:=by
 refine ⟨zhc h (by decide),fun lo M hr _=>?_⟩;obtain ⟨_,t,r,ju,_⟩:=zeT h (by decide);rw[ju]at hr;simp only[St.hd,St.adv,ju,List.headD_cons,List.tail_cons];exact ⟨1,t.at_+1,⟨by have:=hr.1;omega,.inr (.inl ⟨rfl,hr.1,by simp[zbW]⟩)⟩,hr.2⟩
def zpb (n:Nat) (ex:Rd):Prop:=∀ c st,mu st+1<n->∃ r,ex c st=some r/\zd9 0 st r.1 r.2
variable {ex:Rd}
theorem zqN(hx:zpb n ex)(h:mu st<n):∃ r,zeU ex st=some r/\zd9 1 st r.1 r.2:=by
 unfold zeU;split
 ·rename_i hk;exact ⟨_,rfl,zs6 hk⟩
 split
 ·rename_i hk;exact ⟨_,rfl,znQ (zhc hk (by decide)) (.inl rfl)⟩
 split
 ·rename_i hk;exact ⟨_,rfl,(zd9.pre (zcC hk (by simp)) (zrt _)).zkl (by omega)⟩
 split
 ·rename_i hk;have hs:=zcC hk (by simp);have hb:=(zdg hk (by simp)).1;obtain ⟨r,h1,h2⟩:=hx false st.adv (by
   have h3:mu st.adv+1<=mu st:=by
    rcases hs.mu with h3|h3
    ·exact h3
    ·have:mu st≠0:=by simp[mu,hb]
     omega
   omega)
  rw[h1];exact ⟨_,rfl,((zd9.pre hs h2).post (zbE (s:=[41]) (by simp) _)).zkl (by omega)⟩
 ·exact ⟨_,rfl,zd9.fail _ _ _⟩
theorem zhF(h:zcI st=true):st.bad=none:=by
 unfold zcI at h;simp only[zAy]at h;rcases h with ((h|h)|h)|h
 ·exact (zeT h (by decide)).1
 ·exact (zeT h (by decide)).1
 ·exact (zdg h (by simp)).1
 ·exact (zdg h (by simp)).1
theorem ztD(h:st.bad=none):0<mu st:=by simp[mu,h]
theorem zlG(h:Step 1 st st.adv)(hb:st.bad=none):mu st.adv+1<=mu st:=by
 have:=ztD hb;rcases h.mu with h|h <;> omega
theorem zn7{n:Nat}{ex:Rd}(hx:zpb n ex):∀ (k:Nat) (e:Ex) (eO st:St),zd9 0 eO e st->mu st<k->mu st<n->∃ r,zcV ex k e st=some r/\zd9 0 eO r.1 r.2
 |0,_,_,_,_,h,_=>absurd h (zAd _)
 |k+1,e,eO,st,hf,hk,hn=>by
  unfold zcV;split
  ·rename_i hb;have bp:=ztD (zhF hb);obtain ⟨r,h1,h2⟩:=zqN hx hn;rw[h1];exact zn7 hx k (zch e r.1) eO r.2 ((zml (.inl rfl) rfl hf h2).zkl (by omega)) (by rcases h2.step.mu with h|h <;> omega) (by have:=h2.step.le;omega)
  ·exact ⟨_,rfl,hf⟩
theorem zqO(hx:zpb n ex)(hk:mu st<k)(hn:mu st<n):∃ r,zhP ex k st=some r/\zd9 0 st r.1 r.2:=by
 unfold zhP;obtain ⟨r,h1,h2⟩:=zqN hx hn;rw[h1];have:=h2.step.le;exact zn7 hx k r.1 st r.2 (h2.zkl (by omega)) (by omega) (by omega)
theorem zpI{n:Nat}{sub:St->Option (Ex × St)}(hs:∀ st,mu st<n->∃ r,sub st=some r/\zd9 0 st r.1 r.2){a b:List UInt8}(ha:a≠[])(hb:b≠[]):∀ (k:Nat) (e:Ex) (eO st:St),zd9 0 eO e st->mu st<k->mu st<n->∃ r,zku sub a b k e st=some r/\zd9 0 eO r.1 r.2
 |0,_,_,_,_,h,_=>absurd h (zAd _)
 |k+1,e,eO,st,hf,hk,hn=>by
  unfold zku;split
  ·rename_i hc;simp only[zAy]at hc;have h1:Step 1 st st.adv:=by
    rcases hc with h|h
    ·exact zcC h ha
    ·exact zcC h hb
   have h0:st.bad=none:=by
    rcases hc with h|h
    ·exact (zdg h ha).1
    ·exact (zdg h hb).1
   have hm:=zlG h1 h0;obtain ⟨r,h2,h3⟩:=hs st.adv (by omega);rw[h2];have:=h3.step.le;exact zpI hs ha hb k (ziR st.hd e r.1) eO r.2 ((zml (.inr rfl) rfl hf (zd9.pre h1 h3)).zkl (by omega)) (by omega) (by omega)
  ·exact ⟨_,rfl,hf⟩
theorem zjC(hx:zpb n ex)(hn:mu st<n):∃ r,zcG ex n st=some r/\zd9 0 st r.1 r.2:=by
 unfold zcG;obtain ⟨r,h1,h2⟩:=zqO hx hn hn;rw[h1];have:=h2.step.le;exact zpI (fun st h=>zqO hx h h) (by simp) (by simp) n r.1 st r.2 h2 (by omega) (by omega)
theorem ztS(hx:zpb n ex)(hn:mu st<n):∃ r,zu0 ex n st=some r/\zd9 0 st r.1 r.2:=by
 unfold zu0;obtain ⟨r,h1,h2⟩:=zjC hx hn;rw[h1];have:=h2.step.le;exact zpI (fun st h=>zjC hx h) (by simp) (by simp) n r.1 st r.2 h2 (by omega) (by omega)
theorem zv1(hx:zpb n ex)(hn:mu st<n):∃ r,zjD ex n st=some r/\zd9 0 st r.1 r.2:=by
 unfold zjD;obtain ⟨r,h1,h2⟩:=ztS hx hn;rw[h1];have hle:=h2.step.le;simp only[zzD];split
 ·rename_i hc;simp only[zAy]at hc;have h3:Step 1 r.2 r.2.adv:=by
   rcases hc with h|h
   ·exact zcC h (by simp)
   ·exact zcC h (by simp)
  have:=h3.le;obtain ⟨q,h4,h5⟩:=ztS hx (st:=r.2.adv) (by omega);rw[h4];exact ⟨_,rfl,(zml (.inr rfl) rfl h2 (zd9.pre h3 h5)).zkl (by omega)⟩
 ·exact ⟨_,rfl,h2⟩
theorem zbd.snoc{P:Ex->Nat->Nat->Prop}:∀ {lo m hi:Nat} {l:List Tok} {es:List Ex} {t:Tok} {e:Ex},zbd P lo m l es->m<=t.at_->P e (t.at_+1) hi->zbd P lo hi (l++[t]) (es++[e])
 |_lo,_m,hi,[],[],_t,_e,h,hm,he=>⟨zyR h hm,hi,he,zyN _⟩
 |_lo,_m,_hi,_::_,_::_,_t,_e,⟨h1,m1,h2,h3⟩,hm,he=>⟨h1,m1,h2,zbd.snoc h3 hm he⟩
 |_,_,_,[],_::_,_,_,h,_,_=>h.elim
 |_,_,_,_::_,[],_,_,h,_,_=>h.elim
theorem zcb.snoc{P:Ex->Nat->Nat->Prop}:∀ {lo m m1 hi:Nat} {l:List (Nat × List Tok)} {es:List Ex} {a:Nat × List Tok} {e:Ex},zcb P lo m l es->zcx (m+1) m1 a.2->P e m1 hi->zcb P lo hi (l++[a]) (es++[e])
 |lo,m,m1,hi,[],[],a,e,h,hm,he=>⟨m1,hi,hm.down (by have h':lo<=m:=h;omega),he,zyN _⟩
 |lo,m,m1,hi,_::_,_::_,a,e,⟨x,y,h1,h2,h3⟩,hm,he=>⟨x,y,h1,h2,zcb.snoc h3 hm he⟩
 |_,_,_,_,[],_::_,_,_,h,_,_=>h.elim
 |_,_,_,_,_::_,[],_,_,h,_,_=>h.elim
structure zu2 (st:St) (l:List Tok) (es:List Ex) (st':St):Prop where
 step:Step 0 st st'
 inn:∀ lo M,zcx lo M st.rest->st'.bad=none->∃ N m,zbd (In N) lo m l es/\zcx m M st'.rest
theorem zn6{n:Nat}{ex:Rd}(hx:zpb n ex):∀ (k:Nat) (l:List Tok) (es:List Ex) (eO st:St),zu2 eO l es st->mu st<k->mu st+1<n->∃ r,zcu ex k l es st=some r/\zu2 eO r.1 r.2.1 r.2.2
 |0,_,_,_,_,_,h,_=>absurd h (zAd _)
 |k+1,l,es,eO,st,hf,hk,hn=>by
  unfold zcu;have s1:=zhX st;have s2:=zbE (s:=[61]) (by simp) (zaL st).2;have l1:=s1.le;have l2:=s2.le;obtain ⟨r,h1,h2⟩:=hx true (want [61] (zaL st).2) (by omega);have l3:=h2.step.le;have hB:zu2 eO (l++[(zaL st).1]) (es++[r.1]) r.2:=by
   refine ⟨((hf.step.trans s1).trans (s2.trans h2.step)).zkl (by omega),fun lo M hr hb=>?_⟩;have b2:=h2.step.bad hb;have b1:=s2.bad b2;obtain ⟨N,m,i1,i2⟩:=hf.inn lo M hr (s1.bad b1);obtain ⟨j1,j2⟩:=zmF i2 b1;obtain ⟨N2,hi,k1,k2⟩:=h2.inn _ M (s2.zni _ M j2 b2) hb;exact ⟨max N N2,hi,(i1.imp (fun e a b h=>h.mono (zAB _ _))).snoc j1 ((k1.mono (zAr _ _)).down (by omega)),k2⟩
  simp only[h1,zzD];split
  ·rename_i hc;have s3:=zcC hc (by simp);have m3:=zlG s3 (zdg hc (by simp)).1;exact zn6 hx k _ _ eO r.2.adv ⟨(hB.step.trans s3).zkl (by omega),fun lo M hr hb=>by
    obtain ⟨N,m,i1,i2⟩:=hB.inn lo M hr (s3.bad hb);exact ⟨N,m,i1,(s3.zni _ M i2 hb).down (by omega)⟩⟩ (by omega) (by omega)
  ·exact ⟨_,rfl,hB⟩
theorem zs5(st:St):zu2 st [] [] st:=⟨Step.refl st,fun lo _M hr _=>⟨0,lo,zyN _,hr⟩⟩
theorem zxE(hx:zpb n ex)(outer:Bool)(hn:mu st+1<n):∃ r,ztQ ex n outer st=some r/\zd9 0 st r.1 r.2:=by
 unfold ztQ;have hs:Step 0 st (if st.is zo8 then st.adv else st):=by
  split
  ·rename_i h;exact (zcC h (by simp[zo8])).zkl (by omega)
  ·exact Step.refl st
 have hl:=hs.le;obtain ⟨r,h1,h2⟩:=zn6 hx n [] [] (if st.is zo8 then st.adv else st) (if st.is zo8 then st.adv else st) (zs5 _) (by omega) (by omega);have s3:=zbE (s:=sIn) (by simp[sIn]) r.2.2;have l2:=h2.step.le;have l3:=s3.le;obtain ⟨q,h4,h5⟩:=hx outer (want sIn r.2.2) (by omega);simp only[h1,h4,zzD];refine ⟨_,rfl,((hs.trans h2.step).trans (s3.trans h5.step)).zkl (by omega),fun lo M hr hb=>?_⟩;have b5:=h5.step.bad hb;have b3:=s3.bad b5;obtain ⟨N,m,i1,i2⟩:=h2.inn lo M ((hs.zni lo M hr (h2.step.bad b3)).down (by omega)) b3;obtain ⟨N2,hi,k1,k2⟩:=h5.inn _ M (s3.zni _ M i2 b5) hb;refine ⟨max N N2+1,hi,⟨?_,.inr (.inr (.inr (.inr (.inl ⟨?_,q.1,r.2.1,m,rfl,i1.imp (fun e a b h=>h.mono (zAB _ _)),(k1.mono (zAr _ _)).down (by omega)⟩))))⟩,k2⟩
 ·have:=i1.len;have:=k1.le;omega
 ·show (if _ then 8 else 7)=7\/(if _ then 8 else 7)=8;split
  ·exact .inr rfl
  ·exact .inl rfl
structure zu1 (st:St) (l:List (Nat × List Tok)) (es:List Ex) (st':St):Prop where
 step:Step 0 st st'
 inn:∀ lo M,zcx lo M st.rest->st'.bad=none->∃ N m,zcb (In N) lo m l es/\zcx m M st'.rest
theorem zxC(hx:zpb n ex)(outer:Bool)(hn:mu st+1<n):
  ∃ r,ztN ex outer st=some r/\Step 0 st r.2.2/\∀ lo M,zcx lo M st.rest->r.2.2.bad=none->∃ N m hi,zcx (lo+1) m r.1.2/\In N r.2.1 m hi/\zcx hi M r.2.2.rest:=by
 unfold ztN;have s1:=zbE (s:=[60]) (by simp) st;have s2:=ze0 1 99 (want [60] st);have s3:=zbE (s:=[62]) (by simp) (zaB 1 99 (want [60] st)).2;have pz:=(s1.trans s2).trans s3;have s4:=zgu (want [62] (zaB 1 99 (want [60] st)).2);have s5:=zbE (s:=[45,62]) (by simp) (zax (want [62] (zaB 1 99 (want [60] st)).2)).2;have l1:=pz.le;have l4:=s4.le;have l5:=s5.le;obtain ⟨r,h1,h2⟩:=hx outer (want [45,62] (zax (want [62] (zaB 1 99 (want [60] st)).2)).2) (by omega);simp only[h1,zzD];refine ⟨_,rfl,((pz.trans s4).trans (s5.trans h2.step)).zkl (by omega),fun lo M hr hb=>?_⟩;have b5:=h2.step.bad hb;have b4:=s5.bad b5;obtain ⟨m,i1,i2⟩:=zg8 (pz.zni lo M hr (s4.bad b4)) b4;obtain ⟨N,hi,k1,k2⟩:=h2.inn _ M (s5.zni _ M i2 b5) hb;exact ⟨N,m,hi,i1.down (by omega),k1.down (by omega),k2⟩
theorem zqL{n:Nat}{ex:Rd}(hx:zpb n ex)(outer:Bool):∀ (k:Nat) (l:List (Nat × List Tok)) (es:List Ex) (eO st:St),zu1 eO l es st->mu st<k->mu st+1<n->∃ r,zeD ex outer k l es st=some r/\zu1 eO r.1 r.2.1 r.2.2
 |0,_,_,_,_,_,h,_=>absurd h (zAd _)
 |k+1,l,es,eO,st,hf,hk,hn=>by
  unfold zeD;obtain ⟨r,h1,h2,h3⟩:=zxC hx outer hn;have l2:=h2.le;have hA:zu1 eO (l++[r.1]) (es++[r.2.1]) r.2.2:=by
   refine ⟨(hf.step.trans h2).zkl (by omega),fun lo M hr hb=>?_⟩;obtain ⟨N,m,i1,i2⟩:=hf.inn lo M hr (h2.bad hb);obtain ⟨N2,m1,hi,j1,j2,j3⟩:=h3 m M i2 hb;exact ⟨max N N2,hi,(i1.imp (fun e a b h=>h.mono (zAB _ _))).snoc j1 (j2.mono (zAr _ _)),j3⟩
  simp only[h1,zzD];split
  ·rename_i hc;unfold za8 at hc;simp only[zzv]at hc;have s3:=zcC hc.1 (by simp);have m3:=zlG s3 (zdg hc.1 (by simp)).1;exact zqL hx outer k _ _ eO r.2.2.adv ⟨(hA.step.trans s3).zkl (by omega),fun lo M hr hb=>by
    obtain ⟨N,m,i1,i2⟩:=hA.inn lo M hr (s3.bad hb);exact ⟨N,m,i1,(s3.zni _ M i2 hb).down (by omega)⟩⟩ (by omega) (by omega)
  ·exact ⟨_,rfl,hA⟩
theorem zs4(st:St):zu1 st [] [] st:=⟨Step.refl st,fun lo _M hr _=>⟨0,lo,zyN _,hr⟩⟩
theorem zvY(hx:zpb n ex)(outer:Bool)(hn:mu st+1<n):∃ r,zjy ex n outer st=some r/\zd9 0 st r.1 r.2:=by
 unfold zjy;obtain ⟨r,h1,h2⟩:=hx false st hn;have s3:=zbE (s:=sOf) (by simp[sOf]) r.2;have l2:=h2.step.le;have l3:=s3.le;obtain ⟨q,h4,h5⟩:=zqL hx outer n [] [] (want sOf r.2) (want sOf r.2) (zs4 _) (by omega) (by omega);simp only[h1,h4,zzD];refine ⟨_,rfl,(h2.step.trans (s3.trans h5.step)).zkl (by omega),fun lo M hr hb=>?_⟩;have b5:=h5.step.bad hb;obtain ⟨N,m,i1,i2⟩:=h2.inn lo M hr (s3.bad b5);obtain ⟨N2,hi,k1,k2⟩:=h5.inn m M ((s3.zni _ M i2 b5).down (by omega)) hb;refine ⟨max N N2+1,hi,⟨?_,.inr (.inr (.inr (.inr (.inr ⟨rfl,r.1,q.2.1,m,rfl,i1.mono (zAB _ _),k1.imp (fun e a b h=>h.mono (zAr _ _))⟩))))⟩,k2⟩;have:=i1.le;have:=k1.len;omega
theorem zxD(hx:zpb n ex)(outer:Bool)(hn:mu st+1<n):∃ r,ztO ex outer st=some r/\zd9 0 st r.1 r.2:=by
 unfold ztO;have s1:=zhX st;have s2:=zgu (zaL st).2;have s3:=zbE (s:=[46]) (by simp) (zax (zaL st).2).2;have l1:=s1.le;have l2:=s2.le;have l3:=s3.le;obtain ⟨r,h1,h2⟩:=hx outer (want [46] (zax (zaL st).2).2) (by omega);simp only[h1,zzD];refine ⟨_,rfl,((s1.trans s2).trans (s3.trans h2.step)).zkl (by omega),fun lo M hr hb=>?_⟩;have b3:=h2.step.bad hb;have b2:=s3.bad b3;have b1:=s2.bad b2;obtain ⟨i1,i2⟩:=zmF hr b1;obtain ⟨m,j1,j2⟩:=zg8 i2 b2;obtain ⟨N,hi,k1,k2⟩:=h2.inn _ M (s3.zni _ M j2 b3) hb;refine ⟨N+1,hi,⟨?_,.inr (.inr (.inl ⟨rfl,r.1,m,rfl,⟨i1,j1⟩,k1.down (by omega)⟩))⟩,k2⟩;have:=j1.len;have:=k1.le;omega
theorem zmC:∀ (n:Nat),zpb n (zdJ n)
 |0=>fun _ _ h=>absurd h (zAd _)
 |n+1=>fun outer st h=>by
  have hx:=zmC n;have hn:mu st<n:=by omega
  show ∃ r,zg7 (zdJ n) n outer st=some r/\zd9 0 st r.1 r.2;unfold zg7;split
  ·rename_i hc;have s:=zcC hc (by simp[zqP]);have:=zlG s (zdg hc (by simp[zqP])).1;obtain ⟨r,h1,h2⟩:=zxE hx outer (st:=st.adv) (by omega);exact ⟨r,h1,(zd9.pre s h2).zkl (by omega)⟩
  split
  ·rename_i hc;have s:=zcC hc (by simp[zjO]);have:=zlG s (zdg hc (by simp[zjO])).1;obtain ⟨r,h1,h2⟩:=zvY hx outer (st:=st.adv) (by omega);exact ⟨r,h1,(zd9.pre s h2).zkl (by omega)⟩
  split
  ·rename_i hc;have s:=zcC hc (by simp);have:=zlG s (zdg hc (by simp)).1;obtain ⟨r,h1,h2⟩:=zxD hx outer (st:=st.adv) (by omega);exact ⟨r,h1,(zd9.pre s h2).zkl (by omega)⟩
  ·exact zv1 hx hn
end Go.Proofs.YtgahgkddaljmkaaGreatDoor.Th
