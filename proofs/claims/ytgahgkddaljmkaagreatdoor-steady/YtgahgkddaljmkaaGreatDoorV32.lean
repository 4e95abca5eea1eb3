/- Scope10 .. Plain3 -/
import Derived.Test.YtgahgkddaljmkaaGreatDoorV31
import Derived.Test.YtgahgkddaljmkaaGreatDoorV1
set_option maxRecDepth 100000
set_option maxHeartbeats 4000000
namespace Go.Proofs.YtgahgkddaljmkaaGreatDoor
open Go.RowKit
attribute [local go_sem ↓] Go.wp_at_zero Go.wp_at_succ
def Th.zbM (n:Nat):Nat->Nat->List Th.zbq->Prop
 |lo,hi,[]=>lo<=hi
 |lo,hi,x::r=>lo<=x.name.at_/\∃ m1 m2,Th.zcx (x.name.at_+1) m1 x.params/\Th.In n x.e m1 m2/\Th.zbM n m2 hi r
theorem zea{n:Nat}:∀ {lo hi:Nat} {l:List Th.zbq},Th.zbM n lo hi l->lo+l.length<=hi
 |lo,hi,[],h=>h
 |lo,hi,x::r,h=>by
  obtain ⟨h0,m1,m2,h1,h2,h3⟩:=h;have:=zea h3;have:=Th.In.le h2;have:=Th.zcx.len h1;simp;omega
theorem zjS{n:Nat}:∀ {lo hi:Nat} {l:List Th.zbq},Th.zbM n lo hi l->∀ (k:Nat) (x:Th.zbq),l[k]?=some x->∃ m0 m1 m2,Th.zcx m0 m1 x.params/\Th.In n x.e m1 m2/\m2-m0<=hi-lo
 |lo,hi,[],_,k,x,hx=>by simp at hx
 |lo,hi,y::r,h,0,x,hx=>by
  obtain ⟨h0,m1,m2,h1,h2,h3⟩:=h;simp only[zyh,zxL]at hx;subst hx;have:=zea h3;have:=Th.In.le h2;have:=Th.zcx.len h1;exact ⟨_,_,_,h1,h2,by omega⟩
 |lo,hi,y::r,h,k+1,x,hx=>by
  obtain ⟨h0,m1,m2,h1,h2,h3⟩:=h;have:=Th.In.le h2;have:=Th.zcx.len h1;obtain ⟨a,b,c,i1,i2,i3⟩:=zjS h3 k x (by simpa using hx);exact ⟨a,b,c,i1,i2,by omega⟩
theorem ziT(n:Nat)(all:List (List UInt8)):∀ (seen:List (List UInt8)) (l:List Th.zbq) (x:Th.zbq),Th.zbH n all seen (l++[x])=Th.zbH n all seen l++((if (seen++Th.zaq l).contains x.name.s then [x.name.at_] else [])++Th.zjd [] x.params++Th.zar n x.e (all++Th.texts x.params))
 |seen,[],x=>by simp[Th.zbH,Th.zaq]
 |seen,y::l,x=>by
  simp only[zx5,Th.zbH];rw[ziT n all (seen++[y.name.s]) l x];simp[Th.zaq]
variable {w:World}
theorem ztN{w':World}{o:Obj}(h:(w.alloc o).grownBy w' (some w.heap.size)):Below w.heap.size w w':=
 ⟨h.os,h.tape,h.output,zxN (zag w o none).size h.size,fun k hk=>(h.block k (zxO hk (zag w o none).size) (by intro e;injection e with e;omega)).trans ((zag w o none).block k hk (by simp))⟩
variable {n m lo hi:Nat}
theorem zkI{pv:Value}{l:List Th.zbq}{nvs bvs:List Value}{S1 S2:Nat->Prop}(hr:Row S1 w 93 4 pv l.length (zaQ l nvs bvs))(h1:nvs.length=l.length)(h2:bvs.length=l.length)(hrep:zdx S2 w m l nvs bvs)(hin:Th.zbM n lo hi l)(hb:hi-lo<=100000):
  Calls Tryz.prog 42 #[pv] w fun e w'=>e=.returned (.tuple #[.int .i64 ((Th.zbH n (Th.zaq l) [] l).head?.getD 0),.bool (Th.zbH n (Th.zaq l) [] l).head?.isSome])/\Below w.heap.size w w':=by
 have hl1:=zea hin;have hll:l.length<=100000:=by omega
 have hr':Row (fun b=>b<w.heap.size) w 93 4 pv l.length (zaQ l nvs bvs):=hr.mono (fun k hk _=>hk);have hrep':zdx (fun b=>b<w.heap.size) w m l nvs bvs:=fun i x nv bv a b c=>⟨(hrep i x nv bv a b c).1.mono (fun k hk _=>hk),(hrep i x nv bv a b c).2.mono (fun k hk _=>hk)⟩
 have hone:∀ (i:Nat) (nv bv:Value),nvs[i]?=some nv->bvs[i]?=some bv->nv.oneCell'=true/\bv.oneCell'=true:=fun i nv bv hp hq=>by
  have:i<l.length:=by rw[<-h1];exact (zxH.1 hp).1
  have hh:=hrep i l[i] nv bv (zxI this) hp hq;refine ⟨?_,(zsj hh.2).one⟩;obtain ⟨_,_,_,rfl⟩:=zae hh.1;rfl
 have hC:Chk (w.alloc (.cells #[.bool false,.int .i64 0] 140)) w.heap.size none:=Blk.new w [.bool false,.int .i64 0] _;have hg0:=zag w (.cells #[.bool false,.int .i64 0] 140) none;have hfn:=zab (zdL (hr'.gb hg0 (by simp)) h1 h2 hone (by omega));have hss:=zan hr;obtain ⟨sa,sn,sc,rfl⟩:=zae hr;have hsn:Hid (sn=l.length):=zab (by
  rcases hr.1.2 with ⟨h,h0⟩|⟨_,_,_,h0,_⟩
  ·cases h;exact h0.symm
  ·cases h0;rfl)
 have HC:=zab hC;have HR:=zab hr';have HREP:=zab hrep';have H1:=zab h1;have H2:=zab h2;have HIN:=zab hin;clear hr hr' hrep hrep' h1 h2 hin hone hC hg0 hl1;go_enter Tryz.func42,Tryz.ntmps42
 go_wp2_with fail
 refine hfn.o.mono ?_;rintro en w1 ⟨tv,rfl,htv,hb1⟩;obtain ⟨ta,tn,tc,rfl⟩:=zae (Row.zaE htv);have hz:w.heap.size<w1.heap.size:=zxO HC.o.lt hb1.size;have HC1:=zab (HC.o.below hb1);have HG1:=zab (zad (zag w (.cells #[.bool false,.int .i64 0] 140) (some w.heap.size)) (zaf (some w.heap.size) hb1));have HG10:=zab (zaf (some w.heap.size) hb1);have HT:Hid (w1.ownsRow (w.heap.size+1) 9 1 (.slice ta tn tc) l.length (strCells (Th.zaq l))):=zab (by
  have:=htv;rw[show (w.alloc (.cells #[.bool false,.int .i64 0] 140)).heap.size=w.heap.size+1 by simp]at this;exact this)
 clear htv hb1 hfn HC;go_wp2_with fail
 have hsl:=hsn.o;subst hsl
 go_loopg [14] l.length (fun gk i wr=>∃ k:Nat,i=.int .i64 k/\k<=l.length/\l.length-k<=gk/\Chk wr w.heap.size (Th.zbH n (Th.zaq l) [] (l.take k)).head?/\w1.grownBy wr (some w.heap.size))
 case atStart=>exact ⟨0,rfl,zx1 _,by omega,HC1.o,zcR _ _⟩
 case round=>
  obtain ⟨k,rfl,hk,hgk,hch,hg⟩:=hrel;have Hch:=zab hch;have Hg:=zab hg;have hsz:=hg.size;by_cases hlt:k<l.length
  ·obtain ⟨g,hsa⟩:∃ g,sa=some ⟨g,0,none⟩:=by
    rcases hss with h|⟨g,cap,h⟩
    ·have:=(Value.slice.inj h).2.1;omega
    ·exact ⟨g,(Value.slice.inj h).1⟩
   subst hsa;have hT0:=HT.o;obtain ⟨g2,hta⟩:∃ g2,ta=some ⟨g2,0,none⟩/\tn=l.length:=by
    rcases zan (Row.zaE hT0) with h|⟨g2,cap,h⟩
    ·rcases hT0.2 with ⟨_,h0⟩|⟨_,_,_,h0,_⟩
     ·omega
     ·rw[h]at h0;cases h0
    ·cases h;exact ⟨g2,rfl,rfl⟩
   obtain ⟨rfl,rfl⟩:=hta;have hgw:=zad HG1.o hg;have hSc:¬ ((fun b=>b<w.heap.size) w.heap.size):=Nat.lt_irrefl _;obtain ⟨x,hxk⟩:∃ x,l[k]?=some x:=⟨l[k],zxI hlt⟩;obtain ⟨nv,hnv⟩:∃ nv,nvs[k]?=some nv:=⟨_,zxI (by rw[H1.o];exact hlt)⟩;obtain ⟨bv,hbv⟩:∃ bv,bvs[k]?=some bv:=⟨_,zxI (by rw[H2.o];exact hlt)⟩;have hnam:=(HREP.o k x nv bv hxk hnv hbv).1.gb hgw (fun j hj=>by cases hj;exact hSc);have hrep:=(HREP.o k x nv bv hxk hnv hbv).2.gb hgw (fun j hj=>by cases hj;exact hSc);obtain ⟨pt,px,rfl⟩:=zah hrep;obtain ⟨na,nn,nc,rfl⟩:=zae hnam;have hcs:=zcn l nvs bvs k x _ _ hxk hnv hbv;have hrow:=(HR.o.gb hgw (fun j hj=>by cases hj;exact hSc)).1;have c0:=(hrow.cellAt (k*4) (by omega)).trans hcs.1;have c1:=(hrow.cellAt (k*4+1) (by omega)).trans hcs.2.1;have c2:=(hrow.cellAt (k*4+2) (by omega)).trans hcs.2.2.1;have c3:=(hrow.cellAt (k*4+3) (by omega)).trans hcs.2.2.2;have hgl:=(hrow.lt g rfl).2;obtain ⟨m0,m1,m2,hri,hin,hbd⟩:=zjS HIN.o k x hxk;have hcap2:l.length<=tc:=by
    rcases hT0.2 with ⟨h0,_⟩|⟨_,_,_,h0,_,_,hn,_⟩
    ·cases h0
    ·cases h0;exact hn
   have hk0:(0:Int)<=(k:Int):=zyJ _;have hk1:(k:Int)<=(tc:Int):=by omega
   have hT1:=hT0.kept hg (zdk hT0 (Nat.lt_succ_self _));have hT2:=zg7 hT1 (i:=k) (by omega);rw[show (strCells (Th.zaq l)).take k=strCells (Th.zaq (l.take k)) by simp[strCells,Th.zaq]]at hT2;have HT3:Hid (wr.ownsRow (w.heap.size+1) 9 1 (.slice (some ⟨g2,0,none⟩) k tc) (Th.zaq (l.take k)).length (strCells (Th.zaq (l.take k)))):=zab (by
    rw[show (Th.zaq (l.take k)).length=k by simp[Th.zaq];omega];exact hT2)
   have HT1:Hid (Row (fun b=>w.heap.size+1<=b) wr 9 1 (.slice (some ⟨g2,0,none⟩) l.length tc) (Th.zaq l).length (strCells (Th.zaq l))):=zab (by
    rw[show (Th.zaq l).length=l.length by simp[Th.zaq]];exact Row.zaE hT1)
   have CON:=zab (fun (W:World) (hW:Chk W w.heap.size (Th.zbH n (Th.zaq l) [] (l.take k)).head?) (hR:W.ownsRow (w.heap.size+1) 9 1 (.slice (some ⟨g2,0,none⟩) k tc) (Th.zaq (l.take k)).length (strCells (Th.zaq (l.take k))))=>zgY hW ⟨x.name.s.toArray⟩ x.name.at_ hR (by simp[Th.zaq];omega));have Ht:=zab (zaJ hxk);have Hd:Hid ((Th.zbH n (Th.zaq l) [] (l.take (k+1))).head?=after (after (after (Th.zbH n (Th.zaq l) [] (l.take k)).head? (if (Th.zaq (l.take k)).contains x.name.s then [x.name.at_] else [])) (Th.zjd [] x.params)) (Th.zar n x.e (Th.zaq l++Th.texts x.params))):=zab (by
    rw[Ht.o,ziT,<-zaP,<-zaP];simp only[zx7,zye];cases Th.zbH n (Th.zaq l) [] (l.take k) <;> rfl)
   have hxp:x.params.length<=100000:=by have:=hri.len;have:=hin.le;omega
   have HX:=zab (fun (W:World) (o:Option Nat) (av:Value) (B:Nat->Prop) (hW:Chk W w.heap.size o) (hgW:wr.grownBy W (some w.heap.size)) (hB:Row B W 9 1 av (Th.zaq l++Th.texts x.params).length (strCells (Th.zaq l++Th.texts x.params))) (hBc:¬ B w.heap.size)=>zqk n W w.heap.size o _ x.e av _ _ B m m1 m2 hW (hrep.gb hgW (fun j hj=>by cases hj;exact hSc)) hin hB hSc hBc (by have:=hri.len;simp[Th.zaq,Th.texts];omega));have HD:=zab (fun (W:World) (o:Option Nat) (hW:Chk W w.heap.size o) (hgW:wr.grownBy W (some w.heap.size))=>zib hW (hnam.gb hgW (fun j hj=>by cases hj;exact hSc)) hSc (by omega));have HTX:=zab (fun (W:World) (hgW:wr.grownBy W (some w.heap.size))=>zeE (hnam.gb hgW (fun j hj=>by cases hj;exact hSc)) (by omega));have hcr:Hid (w.heap.size≠wr.heap.size):=zab (by omega);have HF:=zab (Blk.new wr [.string ⟨x.name.s.toArray⟩,.int .i64 x.name.at_,.slice na nn nc,.iface pt px] 93);clear hch hg hxk hnv hbv hgw hrep hnam hcs hrow hri hin hbd hT0 hT1 hT2 hss hsn;go_wp2_with fail
   go_region_with (go_at_call 69;refine (CON.o _ ?_ ?_).mono ?_;exact Blk.drew (Blk.alloc Hch.o _);exact (HT3.o.alloc _).drew;rintro e w3 ⟨rfl,h3,hg3⟩;have H3:=zab h3;have HG3:=zab (zad (zad (zag wr (.cells #[.string ⟨x.name.s.toArray⟩,.int .i64 x.name.at_,.slice na nn nc,.iface pt px] 93) _) (zbO _ _)) hg3);have HF3:=zab (Blk.grown (Blk.drew HF.o) hg3 (by intro h;injection h with h;exact hcr.o h.symm));clear h3 hg3)
   all_goals
    have p2:=Blk.cell HF3.o 2;simp at p2;go_wp2_with fail
    refine (HD.o w3 _ H3.o HG3.o).mono ?_;rintro en w4 ⟨rfl,hc4,hg4⟩;have HG4:=zab (zad HG3.o hg4);have HF4:=zab (Blk.grown HF3.o hg4 (by intro h;injection h with h;exact hcr.o h.symm));have HC4:=zab hc4;have q2:=Blk.cell HF4.o 2;have q3:=Blk.cell HF4.o 3;have hs4:=HF4.o.lt;simp at q2 q3;clear hc4 hg4 p2 H3 HG3 HF3 HD c0 c1 c2 c3;go_wp2_with fail
    go_region_with (first
     |(go_at_call 52;refine (HTX.o _ ?_).mono ?_;exact zad HG4.o (zbO _ _);rintro en5 w5 ⟨tv5,rfl,h5,b5⟩;obtain ⟨xa,xn,xc,rfl⟩:=zae (Row.zaE h5);have HG5:=zab (zad (zad HG4.o (zbO _ _)) (zaf (some w.heap.size) b5));have HC5:=zab ((Blk.drew HC4.o).below b5 HC4.o.lt);have HF5:=zab ((Blk.drew HF4.o).below b5 hs4);have r3:=Blk.cell HF5.o 3;have hs5:w4.heap.size<=w5.heap.size:=b5.size;have hl5:wr.heap.size<w5.heap.size:=zxO hs4 hs5;have HT5:Hid (w5.ownsRow w4.heap.size 9 1 (.slice xa xn xc) (Th.texts x.params).length (strCells (Th.texts x.params))):=zab (by simpa [Th.texts] using h5);simp at r3;clear h5 b5)
     |(go_at_call 72;refine (zfz (HT1.o.gb HG5.o (fun j hj=>by cases hj;exact Nat.not_succ_le_self _)) (Row.zaE HT5.o) (by simp[Th.zaq];omega) (by simp[Th.texts];omega)).mono ?_;rintro en6 w6 ⟨ka,kn,kc,rfl,h6,b6⟩;have HG6:=zab (zad HG5.o (zaf (some w.heap.size) b6));have HC6:=zab (HC5.o.below b6 HC5.o.lt);have HK6:=zab h6;have s3:=Blk.cell (HF5.o.below b6 HF5.o.lt) 3;simp at s3;clear h6 b6)
     |(go_at_call 71;refine (HX.o w6 _ _ _ HC6.o HG6.o HK6.o ?_).mono ?_;exact fun (h:w5.heap.size<=w.heap.size)=>absurd h (by omega);rintro en7 w7 ⟨rfl,h7,g7⟩;have HC7:=zab h7;have HG7:=zab (zad HG6.o g7);clear h7 g7))
    all_goals
     go_wp2_with fail
     go_roundg (l.length-(k+1))
     case measure=>omega
     case rel=>
      refine ⟨k+1,by go_num,by omega,zxJ _,?_,zad Hg.o HG7.o⟩;rw[Hd.o];exact HC7.o
  ·have hk2:k=l.length:=by omega
   have Hk:=zab hk2;have c0:=Blk.cell hch 0;have c1:=Blk.cell hch 1;simp at c0 c1;have HG9:=zab (ztN (o:=.cells #[.bool false,.int .i64 0] 140) (zad HG10.o hg));rw[hk2,zx4 (zxJ _)]at c0 c1;obtain ⟨hd,hhd⟩:∃ hd,(Th.zbH n (Th.zaq l) [] l).head?=hd:=⟨_,rfl⟩;rw[hhd]at c0 c1;have HHD:=zab hhd;clear hhd;clear hch hg hk2 Hch;cases hd
   all_goals
    simp at c0 c1;go_wp2_with fail
    go_region_with fail
    all_goals
     go_wp2_with fail
     go_ret2
     refine ⟨by rw[HHD.o];kernel_rfl,zbi (zad (zaf none HG9.o) (zbO _ _))⟩
def Th.zbj:List Th.zbq->Bool
 |[]=>false
 |x::r=>if x.name.s == Th.zdn then x.params.isEmpty else Th.zbj r
theorem zhY:∀ (l:List Th.zbq) (k:Nat) (x:Th.zbq),(∀ y∈l.take k,y.name.s≠Th.zdn)->l[k]?=some x->x.name.s=Th.zdn->Th.zbj l=x.params.isEmpty
 |[],k,x,_,h,_=>by simp at h
 |y::l,0,x,_,h,hx=>by
  simp only[zyh,zxL]at h;subst h;simp[Th.zbj,hx]
 |y::l,k+1,x,hn,h,hx=>by
  have h1:y.name.s≠Th.zdn:=hn y (by simp);simp only[Th.zbj];rw[if_neg (by simpa using h1)];exact zhY l k x (fun z hz=>hn z (by simp[hz])) (by simpa using h) hx
theorem zfP:∀ (l:List Th.zbq),(∀ y∈l,y.name.s≠Th.zdn)->Th.zbj l=false
 |[],_=>rfl
 |y::l,hn=>by
  have h1:y.name.s≠Th.zdn:=hn y (by simp);simp only[Th.zbj];rw[if_neg (by simpa using h1)];exact zfP l (fun z hz=>hn z (by simp[hz]))
theorem zpu{pv:Value}{l:List Th.zbq}{nvs bvs:List Value}{S1 S2:Nat->Prop}(hr:Row S1 w 93 4 pv l.length (zaQ l nvs bvs))(h1:nvs.length=l.length)(h2:bvs.length=l.length)(hrep:zdx S2 w m l nvs bvs)(hll:l.length<=100000):
  Calls Tryz.prog 43 #[pv] w fun e w'=>e=.returned (.bool (Th.zbj l))/\Below w.heap.size w w':=by
 have hss:=zan hr;obtain ⟨sa,sn,sc,rfl⟩:=zae hr;have hsn:Hid (sn=l.length):=zab (by
  rcases hr.1.2 with ⟨h,h0⟩|⟨_,_,_,h0,_⟩
  ·cases h;exact h0.symm
  ·cases h0;rfl)
 have HR:=zab hr;have HREP:=zab hrep;have H1:=zab h1;have H2:=zab h2;clear hr hrep h1 h2;go_enter Tryz.func43,Tryz.ntmps43
 go_wp2_with fail
 have hsl:=hsn.o;subst hsl
 go_loopg [7] l.length (fun gk i wr=>∃ k:Nat,i=.int .i64 k/\k<=l.length/\l.length-k<=gk/\(∀ y∈l.take k,y.name.s≠Th.zdn)/\Below w.heap.size w wr)
 case atStart=>exact ⟨0,rfl,zx1 _,by omega,by simp,Below.refl _ _⟩
 case round=>
  obtain ⟨k,rfl,hk,hgk,hnm,hg⟩:=hrel;have Hg:=zab hg;have HNM:=zab hnm;have hsz:=hg.size;by_cases hlt:k<l.length
  ·obtain ⟨g,hsa⟩:∃ g,sa=some ⟨g,0,none⟩:=by
    rcases hss with h|⟨g,cap,h⟩
    ·have:=(Value.slice.inj h).2.1;omega
    ·exact ⟨g,(Value.slice.inj h).1⟩
   subst hsa;obtain ⟨x,hxk⟩:∃ x,l[k]?=some x:=⟨l[k],zxI hlt⟩;obtain ⟨nv,hnv⟩:∃ nv,nvs[k]?=some nv:=⟨_,zxI (by rw[H1.o];exact hlt)⟩;obtain ⟨bv,hbv⟩:∃ bv,bvs[k]?=some bv:=⟨_,zxI (by rw[H2.o];exact hlt)⟩;have hgw:=zaf none hg;have hnam:=(HREP.o k x nv bv hxk hnv hbv).1.gb hgw (by simp);have hrep:=(HREP.o k x nv bv hxk hnv hbv).2.gb hgw (by simp);obtain ⟨pt,px,rfl⟩:=zah hrep;obtain ⟨na,nn,nc,rfl⟩:=zae hnam;have hnn:nn=x.params.length:=by
    rcases hnam.1.2 with ⟨h,h0⟩|⟨_,_,_,h0,_⟩
    ·cases h;exact h0.symm
    ·cases h0;rfl
   have hcs:=zcn l nvs bvs k x _ _ hxk hnv hbv;have hrow:=(HR.o.gb hgw (by simp)).1;have c0:=(hrow.cellAt (k*4) (by omega)).trans hcs.1;have c1:=(hrow.cellAt (k*4+1) (by omega)).trans hcs.2.1;have c2:=(hrow.cellAt (k*4+2) (by omega)).trans hcs.2.2.1;have c3:=(hrow.cellAt (k*4+3) (by omega)).trans hcs.2.2.2;have hgl:=(hrow.lt g rfl).2;have HXK:=zab hxk;by_cases hx:x.name.s=Th.zdn
   ·have HX:=zab hx;have hpe:Hid (x.params.isEmpty=decide (nn=0)):=zab (by rw[hnn];cases x.params <;> rfl);rw[show (x.name.s.toArray)=#[109,97,105,110] by rw[hx];rfl]at c0;clear hnm hg hxk hnv hbv hgw hrep hnam hcs hrow hss hsn hx hnn;go_wp2_with fail
    go_ret
    refine ⟨?_,zbi (zad (zaf none Hg.o) (zag _ _ _))⟩;rw[zhY l k x HNM.o HXK.o HX.o,hpe.o];show Ending.returned (.bool ((nn:Int) == 0))=Ending.returned (.bool (decide (nn=0)));congr 2;rw[zy6];simp
   ·have HX:=zab hx;have hne:(x.name.s == [109,97,105,110])=false:=by
     rw[beq_eq_false_iff_ne];exact hx
    have Ht:=zab (zaJ hxk);clear hnm hg hxk hnv hbv hgw hrep hnam hcs hrow hss hsn hx hnn;go_wp2_with fail
    go_roundg (l.length-(k+1))
    case measure=>omega
    case rel=>
     refine ⟨k+1,by go_num,by omega,zxJ _,?_,zbi (zad (zaf none Hg.o) (zag _ _ _))⟩;rw[Ht.o];intro y hy;rcases zyc.1 hy with hy|hy
     ·exact HNM.o y hy
     ·rw[zya.1 hy];exact HX.o
  ·have hk2:k=l.length:=by omega
   have Hk:=zab hk2;clear hnm hg hk2;go_wp2_with fail
   go_ret
   refine ⟨?_,Hg.o⟩;have ho:=HNM.o;rw[Hk.o,zx4 (zxJ _)]at ho;rw[zfP l ho];rfl
end Go.Proofs.YtgahgkddaljmkaaGreatDoor
namespace Go.Proofs.YtgahgkddaljmkaaGreatDoor
open Go.RowKit
structure Plain (s:ByteArray) (q:List Th.zbq × Th.St) (N:Nat):Prop where
 zcr:Good (zaB s)
 ne:zaB s≠[]
 lines:∃ n k,n<=1000000/\k<=1000000/\Th.zcG (Th.zei n) k [] ⟨zaB s,none⟩=some q
 within:q.2.bad=none->∃ lo hi,Th.zbM N lo hi q.1/\hi-lo<=100000
def answer (size:Nat) (q:List Th.zbq × Th.St) (N:Nat):Nat × Nat:=
 match q.2.bad with
 |some p=>(2,p)
 |none=>match (Th.zbH N (Th.zaq q.1) [] q.1).head? with
  |some p=>(3,p)
  |none=>if Th.zbj q.1 then (0,0) else (4,size)
def zlZ (s:ByteArray) (q:List Th.zbq × Th.St) (N:Nat) (w:World) (e:Ending) (w':World):Prop:=
 Below w.heap.size w w'/\∃ pv,e=.returned (.tuple #[pv,.int .i64 (answer s.size q N).1,.int .i64 (answer s.size q N).2])/\(∃ a k c,pv=.slice a k c)/\((answer s.size q N).1=0->zjR (zat w) w' pv q.1)
theorem znb{s:ByteArray}(h:600<s.size)(w:World):
  Calls Tryz.prog 33 #[.string s] w fun e w'=>e=.returned (.tuple #[.slice none 0 0,.int .i64 1,.int .i64 0])/\w'=w:=by
 have hz:(600:Int)<(s.size:Int):=by omega
 go_enter Tryz.func33,Tryz.ntmps33
 go_wp2_with fail
 go_ret3
 exact ⟨rfl,rfl⟩
theorem zmc{s:ByteArray}{q:List Th.zbq × Th.St}{N:Nat}(hs:s.size<=600)(hp:Plain s q N)(w:World):
  Calls Tryz.prog 33 #[.string s] w fun e w'=>zlZ s q N w e w':=by
 have hz:¬ ((600:Int)<(s.size:Int)):=by omega
 obtain ⟨n,k,hn,hk,hq⟩:=hp.lines;have CON:=zab (zpA zqP s w hs hp.zcr hp.ne n k hn hk q hq);have HP:=zab hp;clear hp hq;go_enter Tryz.func33,Tryz.ntmps33
 go_wp2_with fail
 refine CON.o.mono ?_;rintro e w1 ⟨hb,hh⟩;have Hb:=zab hb;clear hb CON;rcases hh with ⟨p,hbad,rfl⟩|⟨hbad,pv,rfl,hrep⟩
 ·have HB:=zab hbad;clear hbad;go_wp2_with fail
  go_ret3
  refine ⟨Hb.o,.slice none 0 0,?_,⟨_,_,_,rfl⟩,fun h=>?_⟩
  ·simp only[answer,HB.o];rfl
  ·simp only[answer,HB.o]at h;cases h
 ·have HB:=zab hbad;obtain ⟨lo,hi,hin,hbd⟩:=HP.o.within hbad;obtain ⟨nvs,bvs,m,h1,h2,hrow,hlr⟩:=hrep;obtain ⟨pa,pk,pc,rfl⟩:=zae hrow;have CON1:=zab (zkI hrow h1 h2 hlr hin hbd);have hll:q.1.length<=100000:=by have:=zea hin;omega
  have CON2:=zab (fun (W:World) (hW:Below w1.heap.size w1 W)=>zpu (hrow.gb (zaf none hW) (by simp)) h1 h2 (fun i x nv bv a b c=>⟨(hlr i x nv bv a b c).1.gb (zaf none hW) (by simp),(hlr i x nv bv a b c).2.gb (zaf none hW) (by simp)⟩) hll);have REP:=zab (fun (W:World) (hW:Below w1.heap.size w1 W)=>(⟨nvs,bvs,m,h1,h2,hrow.gb (zaf none hW) (by simp),fun i x nv bv a b c=>⟨(hlr i x nv bv a b c).1.gb (zaf none hW) (by simp),(hlr i x nv bv a b c).2.gb (zaf none hW) (by simp)⟩⟩:zjR (zat w) W (.slice pa pk pc) q.1));clear hbad hin hbd hrow h1 h2 hlr hll;go_wp2_with fail
  refine CON1.o.mono ?_;rintro e w2 ⟨rfl,hb2⟩;have Hb2:=zab hb2;have CON3:=zab (CON2.o w2 hb2);clear hb2 CON1 CON2;obtain ⟨hd,hhd⟩:∃ hd,(Th.zbH N (Th.zaq q.1) [] q.1).head?=hd:=⟨_,rfl⟩;rw[hhd];have HHD:=zab hhd;clear hhd;have HBB:Hid (Below w.heap.size w w2):=zab (zbi (zad (zaf none Hb.o) (zaf none Hb2.o)));cases hd with
  |some p=>
   simp only[zzl,Option.isSome_some];go_wp2_with fail
   go_ret3
   refine ⟨HBB.o,.slice none 0 0,?_,⟨_,_,_,rfl⟩,fun h=>?_⟩
   ·simp only[answer,HB.o,HHD.o];rfl
   ·simp only[answer,HB.o,HHD.o]at h;cases h
  |none=>
   simp only[Option.getD_none,Option.isSome_none];go_wp2_with fail
   refine CON3.o.mono ?_;rintro e w3 ⟨rfl,hb3⟩;have HB3:Hid (Below w.heap.size w w3):=zab (zbi (zad (zaf none HBB.o) (zaf none hb3)));have HR3:=zab (REP.o w3 (zbi (zad (zaf none Hb2.o) (zaf none hb3))));clear hb3 CON3;cases hm:Th.zbj q.1
   ·have HM:=zab hm;clear hm;go_wp2_with fail
    go_ret3
    refine ⟨HB3.o,.slice none 0 0,?_,⟨_,_,_,rfl⟩,fun h=>?_⟩
    ·simp only[answer,HB.o,HHD.o,HM.o];rfl
    ·simp only[answer,HB.o,HHD.o,HM.o]at h;cases h
   ·have HM:=zab hm;clear hm;go_wp2_with fail
    go_ret3
    refine ⟨HB3.o,.slice pa pk pc,?_,⟨_,_,_,rfl⟩,fun _=>HR3.o⟩;simp only[answer,HB.o,HHD.o,HM.o];rfl
end Go.Proofs.YtgahgkddaljmkaaGreatDoor
namespace Go.Proofs.YtgahgkddaljmkaaGreatDoor.Th
def mu (st:St):Nat:=if st.bad.isNone then st.rest.length+1 else 0
theorem zwO(st:St):mu st.fail=0:=by
 unfold mu St.fail;cases h:st.bad <;> simp[h]
theorem ziI(st:St):st.fail.bad≠none:=by
 unfold St.fail;cases h:st.bad <;> simp[h]
variable {s:List UInt8}
variable {st:St}
theorem zc9(h:st.is s=true)(hs:s≠[]):st.bad=none/\∃ t r,st.rest=t::r/\t.s=s:=by
 unfold St.is St.hd at h;simp only[zyx,Option.isNone_iff_eq_none,beq_iff_eq]at h;refine ⟨h.1,?_⟩;cases hr:st.rest with
 |nil=>
  rw[hr]at h;exact absurd h.2.symm hs
 |cons t r=>
  rw[hr]at h;exact ⟨t,r,rfl,h.2⟩
variable {k:Nat}
theorem zeM(h:st.kind k=true)(hk:k≠0):st.bad=none/\∃ t r,st.rest=t::r/\t.k=k:=by
 unfold St.kind St.hd at h;simp only[zyx,Option.isNone_iff_eq_none,beq_iff_eq]at h;refine ⟨h.1,?_⟩;cases hr:st.rest with
 |nil=>
  rw[hr]at h;exact absurd h.2.symm hk
 |cons t r=>
  rw[hr]at h;exact ⟨t,r,rfl,h.2⟩
variable {lo M:Nat}
variable {l:List Tok}
theorem zcx.down{lo':Nat}(h:zcx lo M l)(hl:lo'<=lo):zcx lo' M l:=by
 cases l with
 |nil=>exact zxN hl h
 |cons t r=>exact ⟨zxN hl h.1,h.2⟩
theorem zcx.tail{t:Tok}(h:zcx lo M (t::l)):zcx (lo+1) M l:=h.2.down (by have:=h.1;omega)
structure Step (d:Nat) (st st':St):Prop where
 mu:mu st'+d<=mu st\/Th.mu st'=0
 bad:st'.bad=none->st.bad=none
 zm2:∀ lo M,zcx lo M st.rest->st'.bad=none->zcx (lo+d) M st'.rest
variable {d:Nat}
variable {a b:St}
theorem Step.le(h:Step d a b):Th.mu b<=Th.mu a:=by
 rcases h.mu with h|h <;> omega
variable {d':Nat}
variable {c:St}
theorem Step.trans(h:Step d a b)(k:Step d' b c):Step (d+d') a c:=by
 refine ⟨?_,fun hc=>h.bad (k.bad hc),fun lo M hr hc=>?_⟩
 ·rcases h.mu with h1|h1 <;> rcases k.mu with k1|k1
  ·exact .inl (by omega)
  ·exact .inr k1
  ·exact .inr (by omega)
  ·exact .inr k1
 ·have:=k.zm2 (lo+d) M (h.zm2 lo M hr (k.bad hc)) hc;rw[Nat.add_assoc]at this;exact this
theorem Step.ziY(h:Step d a b)(hd:d'<=d):Step d' a b:=
 ⟨by rcases h.mu with h|h;exact .inl (by omega);exact .inr h,h.bad,fun lo M hr hc=>(h.zm2 lo M hr hc).down (by omega)⟩
theorem Step.refl(st:St):Step 0 st st:=⟨.inl (zxJ _),id,fun _ _ h _=>h⟩
theorem zgR(d:Nat)(st:St):Step d st st.fail:=⟨.inr (zwO st),fun h=>absurd h (ziI st),fun _ _ _ h=>absurd h (ziI st)⟩
theorem zqd{t:Tok}{r:List Tok}(hb:st.bad=none)(hr:st.rest=t::r):Step 1 st st.adv:=by
 refine ⟨.inl ?_,fun _=>hb,fun lo M h _=>?_⟩
 ·simp[Th.mu,St.adv,hb,hr]
 ·rw[hr]at h;simp only[St.adv,hr,List.tail_cons];exact h.tail
theorem zcv(h:st.is s=true)(hs:s≠[]):Step 1 st st.adv:=by
 obtain ⟨hb,t,r,hr,_⟩:=zc9 h hs;exact zqd hb hr
theorem zhk(h:st.kind k=true)(hk:k≠0):Step 1 st st.adv:=by
 obtain ⟨hb,t,r,hr,_⟩:=zeM h hk;exact zqd hb hr
theorem zbE(hs:s≠[])(st:St):Step 1 st (want s st):=by
 unfold want;split
 ·rename_i h;exact zcv h hs
 ·exact zgR _ _
theorem zhx(st:St):Step 1 st (zaK st).2:=by
 unfold zaK;split
 ·rename_i h;exact zhk h (by decide)
 ·exact zgR _ _
theorem zeQ(a b:Nat)(st:St):Step 1 st (zaA a b st).2:=by
 unfold zaA;split
 ·rename_i h;simp only[zyx]at h;exact zhk h.1.1 (by decide)
 ·exact zgR _ _
theorem zmk(h:zcx lo M st.rest)(hb:(zaK st).2.bad=none):lo<=(zaK st).1.at_/\zcx ((zaK st).1.at_+1) M (zaK st).2.rest:=by
 unfold zaK at hb ⊢;split at hb
 ·rename_i hk;rw[if_pos hk];obtain ⟨_,t,r,hr,_⟩:=zeM hk (by decide);rw[hr]at h;simp only[St.hd,St.adv,hr,List.headD_cons,List.tail_cons];exact h
 ·exact absurd hb (ziI st)
theorem zfS(p:Tok->Bool):∀ {lo M:Nat} {l:List Tok},zcx lo M l->∃ m,zcx lo m (l.takeWhile p)/\zcx m M (l.dropWhile p)
 |lo,M,[],h=>⟨lo,zxJ lo,h⟩
 |lo,M,t::l,h=>by
  by_cases ht:p t=true
  ·obtain ⟨m,h1,h2⟩:=zfS p h.2;simp only[List.takeWhile_cons,List.dropWhile_cons,ht,if_true];exact ⟨m,⟨h.1,h1⟩,h2⟩
  ·simp only[List.takeWhile_cons,List.dropWhile_cons,ht];exact ⟨lo,zxJ lo,h⟩
theorem zgD(h:zcx lo M st.rest)(hb:(zax st).2.bad=none):∃ m,zcx lo m (zax st).1/\zcx m M (zax st).2.rest:=by
 unfold zax at hb ⊢;split at hb
 ·rename_i hk;rw[if_pos hk];exact zfS _ h
 ·rename_i hk;rw[hb]at hk;simp at hk
theorem zgs(st:St):Step 0 st (zax st).2:=by
 refine ⟨.inl ?_,?_,fun lo M h hb=>?_⟩
 ·unfold zax;split
  ·rename_i hk;simp only[Th.mu,hk,if_true,Option.isNone_none];have:=(List.dropWhile_sublist (l:=st.rest) (fun t:Tok=>t.k == 2)).length_le;omega
  ·exact zxJ _
 ·unfold zax;split
  ·rename_i hk;intro _;simpa using hk
  ·exact id
 ·obtain ⟨m,h1,h2⟩:=zgD h hb;exact h2.down (by have:=h1.len;omega)
theorem zbc.imp{P Q:Ex->Nat->Nat->Prop}(h:∀ e lo hi,P e lo hi->Q e lo hi):∀ {lo hi:Nat} {l:List Tok} {es:List Ex},zbc P lo hi l es->zbc Q lo hi l es
 |_,_,[],[],k=>k
 |_,_,_::_,_::_,⟨k1,m,k2,k3⟩=>⟨k1,m,h _ _ _ k2,zbc.imp h k3⟩
 |_,_,[],_::_,k=>k.elim
 |_,_,_::_,[],k=>k.elim
theorem zce.imp{P Q:Ex->Nat->Nat->Prop}(h:∀ e lo hi,P e lo hi->Q e lo hi):∀ {lo hi:Nat} {l:List (Nat × List Tok)} {es:List Ex},zce P lo hi l es->zce Q lo hi l es
 |_,_,[],[],k=>k
 |_,_,_::_,_::_,⟨m1,m2,k1,k2,k3⟩=>⟨m1,m2,k1,h _ _ _ k2,zce.imp h k3⟩
 |_,_,[],_::_,k=>k.elim
 |_,_,_::_,[],k=>k.elim
theorem In.succ:∀ (n:Nat) (e:Ex) (lo hi:Nat),In n e lo hi->In (n+1) e lo hi
 |0,_,_,_,h=>h.elim
 |n+1,e,lo,hi,h=>by
  have ih:=In.succ n;refine ⟨h.1,?_⟩;rcases h.2 with h|h|⟨hk,b,m,h1,h2,h3⟩|⟨hk,e1,e2,m,h1,h2,h3⟩|⟨hk,b,ps,m,h1,h2,h3⟩|⟨hk,b,bs,m,h1,h2,h3⟩
  ·exact .inl h
  ·exact .inr (.inl h)
  ·exact .inr (.inr (.inl ⟨hk,b,m,h1,h2,ih _ _ _ h3⟩))
  ·exact .inr (.inr (.inr (.inl ⟨hk,e1,e2,m,h1,ih _ _ _ h2,ih _ _ _ h3⟩)))
  ·exact .inr (.inr (.inr (.inr (.inl ⟨hk,b,ps,m,h1,h2.imp ih,ih _ _ _ h3⟩))))
  ·exact .inr (.inr (.inr (.inr (.inr ⟨hk,b,bs,m,h1,ih _ _ _ h2,h3.imp ih⟩))))
variable {n m:Nat}
variable {e:Ex}
variable {hi:Nat}
theorem In.mono(h:In n e lo hi)(hm:n<=m):In m e lo hi:=by
 induction hm with
 |refl=>exact h
 |step _ ih=>exact In.succ _ _ _ _ ih
variable {P:Ex->Nat->Nat->Prop}
theorem zbc.down{lo':Nat}{es:List Ex}(h:zbc P lo hi l es)(hl:lo'<=lo):zbc P lo' hi l es:=by
 cases l <;> cases es
 ·exact zxN hl h
 ·exact h.elim
 ·exact h.elim
 ·exact ⟨zxN hl h.1,h.2⟩
theorem In.down:∀ {n:Nat} {e:Ex} {lo lo' hi:Nat},In n e lo hi->lo'<=lo->In n e lo' hi
 |0,_,_,_,_,h,_=>h.elim
 |n+1,e,lo,lo',hi,h,hl=>by
  refine ⟨zxN hl h.1,?_⟩;rcases h.2 with h|h|⟨hk,b,m,h1,h2,h3⟩|⟨hk,e1,e2,m,h1,h2,h3⟩|⟨hk,b,ps,m,h1,h2,h3⟩|⟨hk,b,bs,m,h1,h2,h3⟩
  ·exact .inl h
  ·exact .inr (.inl ⟨h.1,zxN hl h.2.1,h.2.2⟩)
  ·exact .inr (.inr (.inl ⟨hk,b,m,h1,h2.down hl,h3⟩))
  ·exact .inr (.inr (.inr (.inl ⟨hk,e1,e2,m,h1,h2.down hl,h3⟩)))
  ·exact .inr (.inr (.inr (.inr (.inl ⟨hk,b,ps,m,h1,h2.down hl,h3⟩))))
  ·exact .inr (.inr (.inr (.inr (.inr ⟨hk,b,bs,m,h1,h2.down hl,h3⟩))))
structure zd3 (d:Nat) (st:St) (e:Ex) (st':St):Prop where
 step:Step d st st'
 inn:∀ lo M,zcx lo M st.rest->st'.bad=none->∃ N hi,In N e lo hi/\zcx hi M st'.rest
theorem zd3.ziY{d d':Nat}{st st':St}{e:Ex}(h:zd3 d st e st')(hd:d'<=d):zd3 d' st e st':=⟨h.step.ziY hd,h.inn⟩
theorem zd3.pre(h:Step d a b)(k:zd3 d' b e c):zd3 (d+d') a e c:=
 ⟨h.trans k.step,fun lo M hr hc=>by
  obtain ⟨N,hi,h1,h2⟩:=k.inn _ M (h.zm2 lo M hr (k.step.bad hc)) hc;exact ⟨N,hi,h1.down (by omega),h2⟩⟩
theorem zd3.post(h:zd3 d a e b)(k:Step d' b c):zd3 (d+d') a e c:=
 ⟨h.step.trans k,fun lo M hr hc=>by
  obtain ⟨N,hi,h1,h2⟩:=h.inn lo M hr (k.bad hc);exact ⟨N,hi,h1,(k.zm2 _ M h2 hc).down (by omega)⟩⟩
theorem zd3.fail(d:Nat)(st:St)(e:Ex):zd3 d st e st.fail:=⟨zgR d st,fun _ _ _ h=>absurd h (ziI st)⟩
theorem zop{st':St}(h:Step d st st')(hk:e.kind=1\/e.kind=3):zd3 d st e st':=
 ⟨h,fun lo M hr hc=>⟨1,lo,⟨zxJ _,.inl hk⟩,(h.zm2 lo M hr hc).down (by omega)⟩⟩
theorem zmf{e1 e2:Ex}(hk:e.kind=5\/e.kind=6)(he:e.kids=[e1,e2])(h:zd3 d a e1 b)(k:zd3 d' b e2 c):zd3 (d+d') a e c:=
 ⟨h.step.trans k.step,fun lo M hr hc=>by
  obtain ⟨N1,m,h1,h2⟩:=h.inn lo M hr (k.step.bad hc);obtain ⟨N2,hi,k1,k2⟩:=k.inn m M h2 hc;exact ⟨max N1 N2+1,hi,⟨zxN h1.le k1.le,.inr (.inr (.inr (.inl ⟨hk,e1,e2,m,he,h1.mono (by omega),k1.mono (by omega)⟩)))⟩,k2⟩⟩
theorem zq3(st:St):zd3 1 st (zdf st).1 (zdf st).2:=
 zop ((((zeQ 1 99 st).trans (zbE (s:=[44]) (by simp) _)).trans (zeQ 0 9 _)).trans (zbE (s:=[125]) (by simp) _)|>.ziY (by omega)) (.inr rfl)
theorem zsa(h:st.kind 2=true):zd3 1 st (zcq st.hd) st.adv:=by
 refine ⟨zhk h (by decide),fun lo M hr _=>?_⟩;obtain ⟨_,t,r,hr',_⟩:=zeM h (by decide);rw[hr']at hr;simp only[St.hd,St.adv,hr',List.headD_cons,List.tail_cons];exact ⟨1,t.at_+1,⟨by have:=hr.1;omega,.inr (.inl ⟨rfl,hr.1,by simp[zcq]⟩)⟩,hr.2⟩
def zo4 (n:Nat) (ex:Rd):Prop:=∀ c st,mu st+1<n->∃ r,ex c st=some r/\zd3 0 st r.1 r.2
variable {ex:Rd}
theorem zqC(hx:zo4 n ex)(h:mu st<n):∃ r,zeL ex st=some r/\zd3 1 st r.1 r.2:=by
 unfold zeL;split
 ·rename_i hk;exact ⟨_,rfl,zsa hk⟩
 split
 ·rename_i hk;exact ⟨_,rfl,zop (zhk hk (by decide)) (.inl rfl)⟩
 split
 ·rename_i hk;exact ⟨_,rfl,(zd3.pre (zcv hk (by simp)) (zq3 _)).ziY (by omega)⟩
 split
 ·rename_i hk;have hs:=zcv hk (by simp);have hb:=(zc9 hk (by simp)).1;obtain ⟨r,h1,h2⟩:=hx false st.adv (by
   have h3:mu st.adv+1<=mu st:=by
    rcases hs.mu with h3|h3
    ·exact h3
    ·have:mu st≠0:=by simp[mu,hb]
     omega
   omega)
  rw[h1];exact ⟨_,rfl,((zd3.pre hs h2).post (zbE (s:=[41]) (by simp) _)).ziY (by omega)⟩
 ·exact ⟨_,rfl,zd3.fail _ _ _⟩
theorem zhK(h:zcK st=true):st.bad=none:=by
 unfold zcK at h;simp only[zzu]at h;rcases h with ((h|h)|h)|h
 ·exact (zeM h (by decide)).1
 ·exact (zeM h (by decide)).1
 ·exact (zc9 h (by simp)).1
 ·exact (zc9 h (by simp)).1
theorem zsh(h:st.bad=none):0<mu st:=by simp[mu,h]
theorem zlk(h:Step 1 st st.adv)(hb:st.bad=none):mu st.adv+1<=mu st:=by
 have:=zsh hb;rcases h.mu with h|h <;> omega
theorem znF{n:Nat}{ex:Rd}(hx:zo4 n ex):∀ (k:Nat) (e:Ex) (st0 st:St),zd3 0 st0 e st->mu st<k->mu st<n->∃ r,zcT ex k e st=some r/\zd3 0 st0 r.1 r.2
 |0,_,_,_,_,h,_=>absurd h (zy8 _)
 |k+1,e,st0,st,hf,hk,hn=>by
  unfold zcT;split
  ·rename_i hb;have hpos:=zsh (zhK hb);obtain ⟨r,h1,h2⟩:=zqC hx hn;rw[h1];exact znF hx k (zcd e r.1) st0 r.2 ((zmf (.inl rfl) rfl hf h2).ziY (by omega)) (by rcases h2.step.mu with h|h <;> omega) (by have:=h2.step.le;omega)
  ·exact ⟨_,rfl,hf⟩
theorem zqm(hx:zo4 n ex)(hk:mu st<k)(hn:mu st<n):∃ r,zhH ex k st=some r/\zd3 0 st r.1 r.2:=by
 unfold zhH;obtain ⟨r,h1,h2⟩:=zqC hx hn;rw[h1];have:=h2.step.le;exact znF hx k r.1 st r.2 (h2.ziY (by omega)) (by omega) (by omega)
theorem zpK{n:Nat}{sub:St->Option (Ex × St)}(hs:∀ st,mu st<n->∃ r,sub st=some r/\zd3 0 st r.1 r.2){a b:List UInt8}(ha:a≠[])(hb:b≠[]):∀ (k:Nat) (e:Ex) (st0 st:St),zd3 0 st0 e st->mu st<k->mu st<n->∃ r,zkj sub a b k e st=some r/\zd3 0 st0 r.1 r.2
 |0,_,_,_,_,h,_=>absurd h (zy8 _)
 |k+1,e,st0,st,hf,hk,hn=>by
  unfold zkj;split
  ·rename_i hc;simp only[zzu]at hc;have h1:Step 1 st st.adv:=by
    rcases hc with h|h
    ·exact zcv h ha
    ·exact zcv h hb
   have h0:st.bad=none:=by
    rcases hc with h|h
    ·exact (zc9 h ha).1
    ·exact (zc9 h hb).1
   have hm:=zlk h1 h0;obtain ⟨r,h2,h3⟩:=hs st.adv (by omega);rw[h2];have:=h3.step.le;exact zpK hs ha hb k (zjk st.hd e r.1) st0 r.2 ((zmf (.inr rfl) rfl hf (zd3.pre h1 h3)).ziY (by omega)) (by omega) (by omega)
  ·exact ⟨_,rfl,hf⟩
theorem zjP(hx:zo4 n ex)(hn:mu st<n):∃ r,zcD ex n st=some r/\zd3 0 st r.1 r.2:=by
 unfold zcD;obtain ⟨r,h1,h2⟩:=zqm hx hn hn;rw[h1];have:=h2.step.le;exact zpK (fun st h=>zqm hx h h) (by simp) (by simp) n r.1 st r.2 h2 (by omega) (by omega)
theorem zsT(hx:zo4 n ex)(hn:mu st<n):∃ r,zuk ex n st=some r/\zd3 0 st r.1 r.2:=by
 unfold zuk;obtain ⟨r,h1,h2⟩:=zjP hx hn;rw[h1];have:=h2.step.le;exact zpK (fun st h=>zjP hx h) (by simp) (by simp) n r.1 st r.2 h2 (by omega) (by omega)
theorem zu3(hx:zo4 n ex)(hn:mu st<n):∃ r,zjg ex n st=some r/\zd3 0 st r.1 r.2:=by
 unfold zjg;obtain ⟨r,h1,h2⟩:=zsT hx hn;rw[h1];have hle:=h2.step.le;simp only[zyy];split
 ·rename_i hc;simp only[zzu]at hc;have h3:Step 1 r.2 r.2.adv:=by
   rcases hc with h|h
   ·exact zcv h (by simp)
   ·exact zcv h (by simp)
  have:=h3.le;obtain ⟨q,h4,h5⟩:=zsT hx (st:=r.2.adv) (by omega);rw[h4];exact ⟨_,rfl,(zmf (.inr rfl) rfl h2 (zd3.pre h3 h5)).ziY (by omega)⟩
 ·exact ⟨_,rfl,h2⟩
theorem zbc.snoc{P:Ex->Nat->Nat->Prop}:∀ {lo m hi:Nat} {l:List Tok} {es:List Ex} {t:Tok} {e:Ex},zbc P lo m l es->m<=t.at_->P e (t.at_+1) hi->zbc P lo hi (l++[t]) (es++[e])
 |_lo,_m,hi,[],[],_t,_e,h,hm,he=>⟨zxN h hm,hi,he,zxJ _⟩
 |_lo,_m,_hi,_::_,_::_,_t,_e,⟨h1,m1,h2,h3⟩,hm,he=>⟨h1,m1,h2,zbc.snoc h3 hm he⟩
 |_,_,_,[],_::_,_,_,h,_,_=>h.elim
 |_,_,_,_::_,[],_,_,h,_,_=>h.elim
theorem zce.snoc{P:Ex->Nat->Nat->Prop}:∀ {lo m m1 hi:Nat} {l:List (Nat × List Tok)} {es:List Ex} {a:Nat × List Tok} {e:Ex},zce P lo m l es->zcx (m+1) m1 a.2->P e m1 hi->zce P lo hi (l++[a]) (es++[e])
 |lo,m,m1,hi,[],[],a,e,h,hm,he=>⟨m1,hi,hm.down (by have h':lo<=m:=h;omega),he,zxJ _⟩
 |lo,m,m1,hi,_::_,_::_,a,e,⟨x,y,h1,h2,h3⟩,hm,he=>⟨x,y,h1,h2,zce.snoc h3 hm he⟩
 |_,_,_,_,[],_::_,_,_,h,_,_=>h.elim
 |_,_,_,_,_::_,[],_,_,h,_,_=>h.elim
structure zuQ (st:St) (l:List Tok) (es:List Ex) (st':St):Prop where
 step:Step 0 st st'
 inn:∀ lo M,zcx lo M st.rest->st'.bad=none->∃ N m,zbc (In N) lo m l es/\zcx m M st'.rest
theorem zok{n:Nat}{ex:Rd}(hx:zo4 n ex):∀ (k:Nat) (l:List Tok) (es:List Ex) (st0 st:St),zuQ st0 l es st->mu st<k->mu st+1<n->∃ r,zcs ex k l es st=some r/\zuQ st0 r.1 r.2.1 r.2.2
 |0,_,_,_,_,_,h,_=>absurd h (zy8 _)
 |k+1,l,es,st0,st,hf,hk,hn=>by
  unfold zcs;have s1:=zhx st;have s2:=zbE (s:=[61]) (by simp) (zaK st).2;have l1:=s1.le;have l2:=s2.le;obtain ⟨r,h1,h2⟩:=hx true (want [61] (zaK st).2) (by omega);have l3:=h2.step.le;have hB:zuQ st0 (l++[(zaK st).1]) (es++[r.1]) r.2:=by
   refine ⟨((hf.step.trans s1).trans (s2.trans h2.step)).ziY (by omega),fun lo M hr hb=>?_⟩;have b2:=h2.step.bad hb;have b1:=s2.bad b2;obtain ⟨N,m,i1,i2⟩:=hf.inn lo M hr (s1.bad b1);obtain ⟨j1,j2⟩:=zmk i2 b1;obtain ⟨N2,hi,k1,k2⟩:=h2.inn _ M (s2.zm2 _ M j2 b2) hb;exact ⟨max N N2,hi,(i1.imp (fun e a b h=>h.mono (zzv _ _))).snoc j1 ((k1.mono (zzm _ _)).down (by omega)),k2⟩
  simp only[h1,zyy];split
  ·rename_i hc;have s3:=zcv hc (by simp);have m3:=zlk s3 (zc9 hc (by simp)).1;exact zok hx k _ _ st0 r.2.adv ⟨(hB.step.trans s3).ziY (by omega),fun lo M hr hb=>by
    obtain ⟨N,m,i1,i2⟩:=hB.inn lo M hr (s3.bad hb);exact ⟨N,m,i1,(s3.zm2 _ M i2 hb).down (by omega)⟩⟩ (by omega) (by omega)
  ·exact ⟨_,rfl,hB⟩
theorem ztc(st:St):zuQ st [] [] st:=⟨Step.refl st,fun lo _M hr _=>⟨0,lo,zxJ _,hr⟩⟩
theorem zwJ(hx:zo4 n ex)(outer:Bool)(hn:mu st+1<n):∃ r,zsk ex n outer st=some r/\zd3 0 st r.1 r.2:=by
 unfold zsk;have hs:Step 0 st (if st.is zoK then st.adv else st):=by
  split
  ·rename_i h;exact (zcv h (by simp[zoK])).ziY (by omega)
  ·exact Step.refl st
 have hl:=hs.le;obtain ⟨r,h1,h2⟩:=zok hx n [] [] (if st.is zoK then st.adv else st) (if st.is zoK then st.adv else st) (ztc _) (by omega) (by omega);have s3:=zbE (s:=sIn) (by simp[sIn]) r.2.2;have l2:=h2.step.le;have l3:=s3.le;obtain ⟨q,h4,h5⟩:=hx outer (want sIn r.2.2) (by omega);simp only[h1,h4,zyy];refine ⟨_,rfl,((hs.trans h2.step).trans (s3.trans h5.step)).ziY (by omega),fun lo M hr hb=>?_⟩;have b5:=h5.step.bad hb;have b3:=s3.bad b5;obtain ⟨N,m,i1,i2⟩:=h2.inn lo M ((hs.zm2 lo M hr (h2.step.bad b3)).down (by omega)) b3;obtain ⟨N2,hi,k1,k2⟩:=h5.inn _ M (s3.zm2 _ M i2 b5) hb;refine ⟨max N N2+1,hi,⟨?_,.inr (.inr (.inr (.inr (.inl ⟨?_,q.1,r.2.1,m,rfl,i1.imp (fun e a b h=>h.mono (zzv _ _)),(k1.mono (zzm _ _)).down (by omega)⟩))))⟩,k2⟩
 ·have:=i1.len;have:=k1.le;omega
 ·show (if _ then 8 else 7)=7\/(if _ then 8 else 7)=8;split
  ·exact .inr rfl
  ·exact .inl rfl
structure zvv (st:St) (l:List (Nat × List Tok)) (es:List Ex) (st':St):Prop where
 step:Step 0 st st'
 inn:∀ lo M,zcx lo M st.rest->st'.bad=none->∃ N m,zce (In N) lo m l es/\zcx m M st'.rest
theorem zwq(hx:zo4 n ex)(outer:Bool)(hn:mu st+1<n):
  ∃ r,ztY ex outer st=some r/\Step 0 st r.2.2/\∀ lo M,zcx lo M st.rest->r.2.2.bad=none->∃ N m hi,zcx (lo+1) m r.1.2/\In N r.2.1 m hi/\zcx hi M r.2.2.rest:=by
 unfold ztY;have s1:=zbE (s:=[60]) (by simp) st;have s2:=zeQ 1 99 (want [60] st);have s3:=zbE (s:=[62]) (by simp) (zaA 1 99 (want [60] st)).2;have s123:=(s1.trans s2).trans s3;have s4:=zgs (want [62] (zaA 1 99 (want [60] st)).2);have s5:=zbE (s:=[45,62]) (by simp) (zax (want [62] (zaA 1 99 (want [60] st)).2)).2;have l1:=s123.le;have l4:=s4.le;have l5:=s5.le;obtain ⟨r,h1,h2⟩:=hx outer (want [45,62] (zax (want [62] (zaA 1 99 (want [60] st)).2)).2) (by omega);simp only[h1,zyy];refine ⟨_,rfl,((s123.trans s4).trans (s5.trans h2.step)).ziY (by omega),fun lo M hr hb=>?_⟩;have b5:=h2.step.bad hb;have b4:=s5.bad b5;obtain ⟨m,i1,i2⟩:=zgD (s123.zm2 lo M hr (s4.bad b4)) b4;obtain ⟨N,hi,k1,k2⟩:=h2.inn _ M (s5.zm2 _ M i2 b5) hb;exact ⟨N,m,hi,i1.down (by omega),k1.down (by omega),k2⟩
theorem zqG{n:Nat}{ex:Rd}(hx:zo4 n ex)(outer:Bool):∀ (k:Nat) (l:List (Nat × List Tok)) (es:List Ex) (st0 st:St),zvv st0 l es st->mu st<k->mu st+1<n->∃ r,zeA ex outer k l es st=some r/\zvv st0 r.1 r.2.1 r.2.2
 |0,_,_,_,_,_,h,_=>absurd h (zy8 _)
 |k+1,l,es,st0,st,hf,hk,hn=>by
  unfold zeA;obtain ⟨r,h1,h2,h3⟩:=zwq hx outer hn;have l2:=h2.le;have hA:zvv st0 (l++[r.1]) (es++[r.2.1]) r.2.2:=by
   refine ⟨(hf.step.trans h2).ziY (by omega),fun lo M hr hb=>?_⟩;obtain ⟨N,m,i1,i2⟩:=hf.inn lo M hr (h2.bad hb);obtain ⟨N2,m1,hi,j1,j2,j3⟩:=h3 m M i2 hb;exact ⟨max N N2,hi,(i1.imp (fun e a b h=>h.mono (zzv _ _))).snoc j1 (j2.mono (zzm _ _)),j3⟩
  simp only[h1,zyy];split
  ·rename_i hc;unfold za6 at hc;simp only[zyx]at hc;have s3:=zcv hc.1 (by simp);have m3:=zlk s3 (zc9 hc.1 (by simp)).1;exact zqG hx outer k _ _ st0 r.2.2.adv ⟨(hA.step.trans s3).ziY (by omega),fun lo M hr hb=>by
    obtain ⟨N,m,i1,i2⟩:=hA.inn lo M hr (s3.bad hb);exact ⟨N,m,i1,(s3.zm2 _ M i2 hb).down (by omega)⟩⟩ (by omega) (by omega)
  ·exact ⟨_,rfl,hA⟩
theorem zsJ(st:St):zvv st [] [] st:=⟨Step.refl st,fun lo _M hr _=>⟨0,lo,zxJ _,hr⟩⟩
theorem zvy(hx:zo4 n ex)(outer:Bool)(hn:mu st+1<n):∃ r,zjC ex n outer st=some r/\zd3 0 st r.1 r.2:=by
 unfold zjC;obtain ⟨r,h1,h2⟩:=hx false st hn;have s3:=zbE (s:=sOf) (by simp[sOf]) r.2;have l2:=h2.step.le;have l3:=s3.le;obtain ⟨q,h4,h5⟩:=zqG hx outer n [] [] (want sOf r.2) (want sOf r.2) (zsJ _) (by omega) (by omega);simp only[h1,h4,zyy];refine ⟨_,rfl,(h2.step.trans (s3.trans h5.step)).ziY (by omega),fun lo M hr hb=>?_⟩;have b5:=h5.step.bad hb;obtain ⟨N,m,i1,i2⟩:=h2.inn lo M hr (s3.bad b5);obtain ⟨N2,hi,k1,k2⟩:=h5.inn m M ((s3.zm2 _ M i2 b5).down (by omega)) hb;refine ⟨max N N2+1,hi,⟨?_,.inr (.inr (.inr (.inr (.inr ⟨rfl,r.1,q.2.1,m,rfl,i1.mono (zzv _ _),k1.imp (fun e a b h=>h.mono (zzm _ _))⟩))))⟩,k2⟩;have:=i1.le;have:=k1.len;omega
theorem zwN(hx:zo4 n ex)(outer:Bool)(hn:mu st+1<n):∃ r,zt3 ex outer st=some r/\zd3 0 st r.1 r.2:=by
 unfold zt3;have s1:=zhx st;have s2:=zgs (zaK st).2;have s3:=zbE (s:=[46]) (by simp) (zax (zaK st).2).2;have l1:=s1.le;have l2:=s2.le;have l3:=s3.le;obtain ⟨r,h1,h2⟩:=hx outer (want [46] (zax (zaK st).2).2) (by omega);simp only[h1,zyy];refine ⟨_,rfl,((s1.trans s2).trans (s3.trans h2.step)).ziY (by omega),fun lo M hr hb=>?_⟩;have b3:=h2.step.bad hb;have b2:=s3.bad b3;have b1:=s2.bad b2;obtain ⟨i1,i2⟩:=zmk hr b1;obtain ⟨m,j1,j2⟩:=zgD i2 b2;obtain ⟨N,hi,k1,k2⟩:=h2.inn _ M (s3.zm2 _ M j2 b3) hb;refine ⟨N+1,hi,⟨?_,.inr (.inr (.inl ⟨rfl,r.1,m,rfl,⟨i1,j1⟩,k1.down (by omega)⟩))⟩,k2⟩;have:=j1.len;have:=k1.le;omega
theorem zmJ:∀ (n:Nat),zo4 n (zei n)
 |0=>fun _ _ h=>absurd h (zy8 _)
 |n+1=>fun outer st h=>by
  have hx:=zmJ n;have hn:mu st<n:=by omega
  show ∃ r,zgF (zei n) n outer st=some r/\zd3 0 st r.1 r.2;unfold zgF;split
  ·rename_i hc;have s:=zcv hc (by simp[ztI]);have:=zlk s (zc9 hc (by simp[ztI])).1;obtain ⟨r,h1,h2⟩:=zwJ hx outer (st:=st.adv) (by omega);exact ⟨r,h1,(zd3.pre s h2).ziY (by omega)⟩
  split
  ·rename_i hc;have s:=zcv hc (by simp[zjp]);have:=zlk s (zc9 hc (by simp[zjp])).1;obtain ⟨r,h1,h2⟩:=zvy hx outer (st:=st.adv) (by omega);exact ⟨r,h1,(zd3.pre s h2).ziY (by omega)⟩
  split
  ·rename_i hc;have s:=zcv hc (by simp);have:=zlk s (zc9 hc (by simp)).1;obtain ⟨r,h1,h2⟩:=zwN hx outer (st:=st.adv) (by omega);exact ⟨r,h1,(zd3.pre s h2).ziY (by omega)⟩
  ·exact zu3 hx hn
end Go.Proofs.YtgahgkddaljmkaaGreatDoor.Th
