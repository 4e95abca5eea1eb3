/- Scope7 .. Scope9 -/
import Derived.Test.YtgahgkddaljmkaaGreatDoorW30
set_option maxRecDepth 100000
set_option maxHeartbeats 4000000
namespace Go.Proofs.YtgahgkddaljmkaaGreatDoor
open Tryz
open Go.RowKit
attribute [local go_sem ↓] Go.wp_at_zero Go.wp_at_succ
theorem zgG(wr:Th.Ex->List (List UInt8)->List Nat)(ar:List (List UInt8)):∀ (seen:List (List UInt8)) (l:List Th.Tok) (es:List Th.Ex) (t:Th.Tok) (e:Th.Ex),l.length=es.length ->
  Th.zbq wr ar seen (l++[t]) (es++[e])=Th.zbq wr ar seen l es++((if (seen++Th.texts l).contains t.s then [t.at_] else [])++wr e ar)
 |seen,[],[],t,e,_=>by simp[Th.zbq,Th.texts]
 |seen,x::l,y::es,t,e,h=>by
  simp only[zy7,Th.zbq];rw[zgG wr ar (seen++[x.s]) l es t e (by simpa using h)];simp[Th.texts]
 |_,[],_::_,_,_,h=>by simp at h
 |_,_::_,[],_,_,h=>by simp at h
theorem zgh{n:Nat}:∀ {lo hi:Nat} {l:List Th.Tok} {es:List Th.Ex},Th.zbd (Th.In n) lo hi l es->∀ (k:Nat) (p:Th.Ex),es[k]?=some p->∃ dL eX,Th.In n p dL eX/\l.length+(eX - dL)<=hi-lo
 |lo,hi,[],[],_,k,p,hp=>by simp at hp
 |lo,hi,t::r,e::es,h,0,p,hp=>by
  obtain ⟨h1,m,h2,h3⟩:=h;simp only[zzl,zyP]at hp;subst hp;have:=Th.zbd.len h3;have:=Th.In.le h2;exact ⟨_,_,h2,by simp;omega⟩
 |lo,hi,t::r,e::es,h,k+1,p,hp=>by
  obtain ⟨h1,m,h2,h3⟩:=h;have:=Th.zbd.len h3;have:=Th.In.le h2;obtain ⟨dL,eX,h4,h5⟩:=zgh h3 k p (by simpa using hp);exact ⟨dL,eX,h4,by simp;omega⟩
 |_,_,[],_::_,h,_,_,_=>h.elim
 |_,_,_::_,[],h,_,_,_=>h.elim
variable {n:Nat}
variable {w:World}
variable {c:Nat}
variable {o:Option Nat}
variable {sv av:Value}
variable {l:List Th.Tok}
variable {b:Th.Ex}
variable {ae:List (List UInt8)}
variable {S A:Nat->Prop}
variable {m lo dm hi:Nat}
theorem zxw(hx:zwK n){r:Bool}{bv:Value}{parts:List Th.Ex}{pvs:List Value}(hc:Chk w c o)(h3:parts.length=l.length)(h4:pvs.length=l.length)(h5:Row S w 312 3 sv l.length (zaM l pvs))(h6:∀ (i:Nat) (pv:Value) (p:Th.Ex),pvs[i]?=some pv->parts[i]?=some p->Rep S w m pv p)(h7:Rep S w m bv b)(h1:Th.zbd (Th.In n) lo dm l parts)(h2:Th.In n b dm hi)(ha:Row A w 9 1 av ae.length (strCells ae))(hS:¬ S c)(hA:¬ A c)(hb:ae.length+(hi-lo)<=1000000):
  Calls prog 121 #[.pointer (some ⟨c,0,none⟩),.agg #[.bool r,sv,bv],av] w fun en w'=>en=.returned (.tuple #[])/\Chk w' c (after o (Th.zbq (Th.zar n) (if r then ae++Th.texts l else ae) [] l parts++Th.zar n b (ae++Th.texts l)))/\w.grownBy w' (some c):=by
 have aL:=h1.len;have aC:=h2.le;have aN:=hc.lt;have lp:l.length<=1000000:=by omega
 have aU:ae.length<=1000000:=by omega
 have bR:∀ (i:Nat) (pv:Value),pvs[i]?=some pv->pv.oneCell'=true:=fun i pv hp=>by
  have:i<parts.length:=by rw[h3,<-h4];exact (zyL.1 hp).1
  exact (ztU (h6 i pv parts[i] hp (zyM this))).one
 have oA:=zab bR;obtain ⟨t,x,rfl⟩:=zah h7;obtain ⟨aa,an,ac,rfl⟩:=zae ha;have eM:=zan h5;have HC:=zab hc;have H3:=zab h3;have H4:=zab h4;have H5:=zab h5;have H6:=zab h6;have H7:=zab h7;have HA:=zab ha;have HI:=zab (And.intro h1 (And.intro h2 (And.intro hS hA)));have HL:Hid ((ae++Th.texts l).length+(hi-dm)<=1000000/\ae.length+(dm-lo)<=1000000):=zab (by simp[Th.texts];omega);have HX:=zab hx;clear hc h3 h4 h5 h6 h7 ha h1 h2 hS hA hb hx aL aC bR;obtain ⟨sa,sn,sc,E9⟩:∃ sa sn sc,sv=.slice sa sn sc:=by
  rcases eM with h|⟨g,cap,h⟩
  ·exact ⟨_,_,_,h⟩
  ·exact ⟨_,_,_,h⟩
 subst E9;have hE:=Blk.new w [.bool r,.slice sa sn sc,.iface t x] 178;have dE:=zag w (.cells #[.bool r,.slice sa sn sc,.iface t x] 178) (some c);have ek:=zab (zcX (rb:=r) (bt:=t) (bx:=x) (H5.o.gb dE (fun j hj=>by cases hj;exact HI.o.2.2.1)) H4.o oA.o lp);have HE:=zab hE;have eQ:=zab dE;clear hE dE;go_enter func121,ntmps121
 go_wp2_with fail
 refine ek.o.mono ?_;rintro en w1 ⟨tv,rfl,eC,aA⟩;obtain ⟨ta,tn,tc,rfl⟩:=zae (Row.zaE eC);have x8:w.heap.size<w1.heap.size:=by
  have:=aA.size;have:=HE.o.lt;omega
 have my:=zab (HE.o.below aA HE.o.lt);have gY:=zab (zad eQ.o (zaf (some c) aA));have lR:=zab ((HC.o.gb (zag _ _ none) (by simp)).below aA);have HT:Hid (w1.ownsRow w.heap.size 9 1 (.slice ta tn tc) (Th.texts l).length (strCells (Th.texts l))):=zab (by
  refine za0 ?_ (zag w (.cells #[.bool r,.slice sa sn sc,.iface t x] 178) none).size;simpa [Th.texts] using eC)
 have e0:=Blk.cell my.o 0;have e1:=Blk.cell my.o 1;have e2:=Blk.cell my.o 2;simp at e0 e1 e2;clear eC aA ek HC HE eQ;go_wp2_with fail
 have ic:=zfs (HA.o.gb gY.o (fun j hj=>by cases hj;exact HI.o.2.2.2)) (Row.zaE HT.o) aU (by simpa [Th.texts] using lp);refine ic.mono ?_;clear ic e0 e1 e2;rintro en w2 ⟨ka,kn,kc,rfl,hK,aw⟩;have eK:=zab (zad gY.o (zaf (some c) aw));have ua:=zab (lR.o.below aw);have ze:=zab (HT.o.kept (zaf none aw) (zfy _));have fU:=zab (my.o.below aw my.o.lt);have HK:=zab hK;have j6:=aw.size;have e0:=Blk.cell fU.o 0;have e1:=Blk.cell fU.o 1;have e2:=Blk.cell fU.o 2;simp at e0 e1 e2;clear hK aw gY lR HT my;have rF:¬ (w1.heap.size<=c):=by omega
 have gD:Hid (∀ (sd:Bool) (q:Value),q=(if sd then .slice ka kn kc else .slice aa an ac)->∃ B:Nat->Prop,Row B w2 9 1 q (if sd then ae++Th.texts l else ae).length (strCells (if sd then ae++Th.texts l else ae))/\¬ B c/\∀ (k:Nat) (p:Th.Ex),parts[k]?=some p->∃ dL eX,Th.In n p dL eX/\(if sd then ae++Th.texts l else ae).length+(eX - dL)<=1000000):=zab (fun sd q hq=>by
  subst hq;cases sd
  ·refine ⟨A,HA.o.gb eK.o (fun j hj=>by cases hj;exact HI.o.2.2.2),HI.o.2.2.2,fun k p hp=>?_⟩;obtain ⟨dL,eX,h8,h9⟩:=zgh HI.o.1 k p hp;have:=HL.o.2;exact ⟨dL,eX,h8,by show ae.length+(eX - dL)<=1000000;omega⟩
  ·refine ⟨_,HK.o,rF,fun k p hp=>?_⟩;obtain ⟨dL,eX,h8,h9⟩:=zgh HI.o.1 k p hp;have:=HL.o.2;exact ⟨dL,eX,h8,by show (ae++Th.texts l).length+(eX - dL)<=1000000;simp[Th.texts];omega⟩)
 have fD:Hid (sn=l.length):=zab (by
  rcases H5.o.1.2 with ⟨h,h0⟩|⟨_,_,_,h0,_⟩
  ·cases h;exact h0.symm
  ·cases h0;rfl)
 cases r
 ·obtain ⟨B,cU,jh,ia⟩:=gD.o false (.slice aa an ac) rfl;have HB:=zab (And.intro cU (And.intro jh ia));clear cU jh ia;go_wp2_with fail
  have aK:=fD.o;subst aK
  go_loopg [24] l.length (fun gk i wr=>∃ k:Nat,i=.int .i64 k/\k<=l.length/\l.length-k<=gk/\Chk wr c (after o (Th.zbq (Th.zar n) (if false then ae++Th.texts l else ae) [] (l.take k) (parts.take k)))/\w2.grownBy wr (some c))
  case atStart=>exact ⟨0,rfl,zy5 _,by omega,by rw[zzR,zzR,show Th.zbq (Th.zar n) (if false then ae++Th.texts l else ae) [] [] []=[] from rfl,zbZ];exact ua.o,zcT _ _⟩
  case round=>
   obtain ⟨k,rfl,hk,jm,fV,hg⟩:=hrel;have jQ:=zab fV;have Hg:=zab hg;have cT:=hg.size;by_cases aj:k<l.length
   ·obtain ⟨g,jw⟩:∃ g,sa=some ⟨g,0,none⟩:=by
     rcases eM with h|⟨g,cap,h⟩
     ·have:=(Value.slice.inj h).2.1;omega
     ·exact ⟨g,(Value.slice.inj h).1⟩
    subst jw;have ib:=ze.o;obtain ⟨g2,tf⟩:∃ g2,ta=some ⟨g2,0,none⟩/\tn=l.length:=by
     rcases zan (Row.zaE ib) with h|⟨g2,cap,h⟩
     ·rcases ib.2 with ⟨_,h0⟩|⟨_,_,_,h0,_⟩
      ·rw[show (Th.texts l).length=l.length by simp[Th.texts]]at h0;omega
      ·rw[h]at h0;cases h0
     ·cases h;exact ⟨g2,rfl,by simp[Th.texts]⟩
    obtain ⟨rfl,rfl⟩:=tf;obtain ⟨t,ht⟩:∃ t,l[k]?=some t:=⟨l[k],zyM aj⟩;obtain ⟨p,hp⟩:∃ p,parts[k]?=some p:=⟨_,zyM (by rw[H3.o];exact aj)⟩;obtain ⟨pv,eD⟩:∃ pv,pvs[k]?=some pv:=⟨_,zyM (by rw[H4.o];exact aj)⟩;have aR:=((H6.o k pv p eD hp).gb (zad eK.o hg) (fun j hj=>by cases hj;exact HI.o.2.2.1));obtain ⟨pt,px,rfl⟩:=zah aR;have aE:=zbA l pvs k t _ ht eD;have af:=(H5.o.gb (zad eK.o hg) (fun j hj=>by cases hj;exact HI.o.2.2.1)).1;have c0:=(af.cellAt (k*3) (by omega)).trans aE.1;have c1:=(af.cellAt (k*3+1) (by omega)).trans aE.2.1;have c2:=(af.cellAt (k*3+2) (by omega)).trans aE.2.2;have fX:=(af.lt g rfl).2;have Ht:=zab (zaJ ht);have Hp:=zab (zaJ hp);have dF:(0:Int)<=(k:Int):=zzN _;have xt:c<w2.heap.size:=by omega
    have kL:wr.ownsRow w.heap.size 9 1 (.slice (some ⟨g2,0,none⟩) l.length tc) l.length (strCells (Th.texts l)):=by
     have:=ib.kept hg (zdi ib aN);simpa [Th.texts] using this
    have kT:l.length<=tc:=by
     rcases kL.2 with ⟨h0,_⟩|⟨_,_,_,h0,_,_,hn,_⟩
     ·cases h0
     ·cases h0;exact hn
    have cK:(k:Int)<=(tc:Int):=by omega
    have gl:=zg6 kL (i:=k) (by omega);rw[zeo]at gl;have oE:Hid (wr.ownsRow w.heap.size 9 1 (.slice (some ⟨g2,0,none⟩) k tc) (Th.texts (l.take k)).length (strCells (Th.texts (l.take k)))):=zab (by
     rw[show (Th.texts (l.take k)).length=k by simp[Th.texts];omega];exact gl)
    have dn:=zab (fun (W:World) (hW:Chk W c (after o (Th.zbq (Th.zar n) (if false then ae++Th.texts l else ae) [] (l.take k) (parts.take k)))) (hR:W.ownsRow w.heap.size 9 1 (.slice (some ⟨g2,0,none⟩) k tc) (Th.texts (l.take k)).length (strCells (Th.texts (l.take k))))=>zgW hW ⟨t.s.toArray⟩ t.at_ hR (by simp[Th.texts];omega));have Hd:Hid (Th.zbq (Th.zar n) (if false then ae++Th.texts l else ae) [] (l.take (k+1)) (parts.take (k+1))=Th.zbq (Th.zar n) (if false then ae++Th.texts l else ae) [] (l.take k) (parts.take k)++((if (Th.texts (l.take k)).contains t.s then [t.at_] else [])++Th.zar n p (if false then ae++Th.texts l else ae))):=zab (by
     rw[Ht.o,Hp.o,zgG _ _ _ _ _ _ _ (by have:=H3.o;simp;omega)];simp)
    have dT:=zab aR;have HP:=zab hp;have pV:Hid (c≠wr.heap.size):=zab (by omega);clear fV hg ht hp eD aE af ib kL gl aR e0 e1 e2 eM fD gD;go_wp2_with fail
    go_region_with (go_at_call 69;refine (dn.o _ ?_ ?_).mono ?_;exact Blk.drew (Blk.alloc jQ.o _);exact (oE.o.alloc _).drew;rintro e w3 ⟨rfl,h3,aS⟩;have vp:=zab h3;have gC:=zab aS;have p2:w3.cell? ⟨wr.heap.size,2,none⟩=some (.iface pt px):=Blk.cell (Blk.grown (Blk.drew (Blk.new wr [.string ⟨t.s.toArray⟩,.int .i64 t.at_,.iface pt px] 312)) aS (by intro h;injection h with h;exact pV.o h.symm)) 2;clear h3 aS)
    all_goals
     have gZ:=zab (zad (zad (zad Hg.o (zag _ _ _)) (zbO _ _)) gC.o);obtain ⟨dL,eX,hin,dq⟩:=HB.o.2.2 k p HP.o;have hU:=zab (HX.o w3 c _ _ p _ _ S B m dL eX vp.o (dT.o.gb (zad (zad (zag _ _ _) (zbO _ _)) gC.o) (fun j hj=>by cases hj;exact HI.o.2.2.1)) hin (HB.o.1.gb gZ.o (fun j hj=>by cases hj;exact HB.o.2.1)) HI.o.2.2.1 HB.o.2.1 dq);clear hin dq;go_wp2_with fail
     refine hU.o.mono ?_;rintro en w5 ⟨rfl,jD,cH⟩;have jy:=zab (And.intro jD cH);clear jD cH p2;go_wp2_with fail
     go_roundg (l.length-(k+1))
     case measure=>omega
     case rel=>
      refine ⟨k+1,by go_num,by omega,zyN _,?_,zad gZ.o jy.o.2⟩;rw[Hd.o,zaQ,zaQ];exact jy.o.1
   ·have aG:k=l.length:=by omega
    have Hk:=zab aG;have rB:=fU.o.grown hg (by intro h;injection h with h;omega);have e3:=Blk.cell rB 2;simp at e3;clear fV hg aG e0 e1 e2 rB gD;have gZ:=zab (zad eK.o Hg.o);have hU:=zab (HX.o wr c _ _ b _ _ S _ m dm hi jQ.o (H7.o.gb gZ.o (fun j hj=>by cases hj;exact HI.o.2.2.1)) HI.o.2.1 (HK.o.gb Hg.o (fun j hj=>by cases hj;exact rF)) HI.o.2.2.1 rF HL.o.1);go_wp2_with fail
    refine hU.o.mono ?_;rintro en w5 ⟨rfl,jD,cH⟩;have jy:=zab (And.intro jD cH);clear jD cH;go_wp2_with fail
    go_end0
    refine ⟨rfl,?_,zad gZ.o jy.o.2⟩;have ho:=jy.o.1;rw[Hk.o,zy9 (zyN _),zy9 (Nat.le_of_eq H3.o)]at ho;rw[zaQ];exact ho
 ·obtain ⟨B,cU,jh,ia⟩:=gD.o true (.slice ka kn kc) rfl;have HB:=zab (And.intro cU (And.intro jh ia));clear cU jh ia;go_wp2_with fail
  have aK:=fD.o;subst aK
  go_loopg [24] l.length (fun gk i wr=>∃ k:Nat,i=.int .i64 k/\k<=l.length/\l.length-k<=gk/\Chk wr c (after o (Th.zbq (Th.zar n) (if true then ae++Th.texts l else ae) [] (l.take k) (parts.take k)))/\w2.grownBy wr (some c))
  case atStart=>exact ⟨0,rfl,zy5 _,by omega,by rw[zzR,zzR,show Th.zbq (Th.zar n) (if true then ae++Th.texts l else ae) [] [] []=[] from rfl,zbZ];exact ua.o,zcT _ _⟩
  case round=>
   obtain ⟨k,rfl,hk,jm,fV,hg⟩:=hrel;have jQ:=zab fV;have Hg:=zab hg;have cT:=hg.size;by_cases aj:k<l.length
   ·obtain ⟨g,jw⟩:∃ g,sa=some ⟨g,0,none⟩:=by
     rcases eM with h|⟨g,cap,h⟩
     ·have:=(Value.slice.inj h).2.1;omega
     ·exact ⟨g,(Value.slice.inj h).1⟩
    subst jw;have ib:=ze.o;obtain ⟨g2,tf⟩:∃ g2,ta=some ⟨g2,0,none⟩/\tn=l.length:=by
     rcases zan (Row.zaE ib) with h|⟨g2,cap,h⟩
     ·rcases ib.2 with ⟨_,h0⟩|⟨_,_,_,h0,_⟩
      ·rw[show (Th.texts l).length=l.length by simp[Th.texts]]at h0;omega
      ·rw[h]at h0;cases h0
     ·cases h;exact ⟨g2,rfl,by simp[Th.texts]⟩
    obtain ⟨rfl,rfl⟩:=tf;obtain ⟨t,ht⟩:∃ t,l[k]?=some t:=⟨l[k],zyM aj⟩;obtain ⟨p,hp⟩:∃ p,parts[k]?=some p:=⟨_,zyM (by rw[H3.o];exact aj)⟩;obtain ⟨pv,eD⟩:∃ pv,pvs[k]?=some pv:=⟨_,zyM (by rw[H4.o];exact aj)⟩;have aR:=((H6.o k pv p eD hp).gb (zad eK.o hg) (fun j hj=>by cases hj;exact HI.o.2.2.1));obtain ⟨pt,px,rfl⟩:=zah aR;have aE:=zbA l pvs k t _ ht eD;have af:=(H5.o.gb (zad eK.o hg) (fun j hj=>by cases hj;exact HI.o.2.2.1)).1;have c0:=(af.cellAt (k*3) (by omega)).trans aE.1;have c1:=(af.cellAt (k*3+1) (by omega)).trans aE.2.1;have c2:=(af.cellAt (k*3+2) (by omega)).trans aE.2.2;have fX:=(af.lt g rfl).2;have Ht:=zab (zaJ ht);have Hp:=zab (zaJ hp);have dF:(0:Int)<=(k:Int):=zzN _;have xt:c<w2.heap.size:=by omega
    have kL:wr.ownsRow w.heap.size 9 1 (.slice (some ⟨g2,0,none⟩) l.length tc) l.length (strCells (Th.texts l)):=by
     have:=ib.kept hg (zdi ib aN);simpa [Th.texts] using this
    have kT:l.length<=tc:=by
     rcases kL.2 with ⟨h0,_⟩|⟨_,_,_,h0,_,_,hn,_⟩
     ·cases h0
     ·cases h0;exact hn
    have cK:(k:Int)<=(tc:Int):=by omega
    have gl:=zg6 kL (i:=k) (by omega);rw[zeo]at gl;have oE:Hid (wr.ownsRow w.heap.size 9 1 (.slice (some ⟨g2,0,none⟩) k tc) (Th.texts (l.take k)).length (strCells (Th.texts (l.take k)))):=zab (by
     rw[show (Th.texts (l.take k)).length=k by simp[Th.texts];omega];exact gl)
    have dn:=zab (fun (W:World) (hW:Chk W c (after o (Th.zbq (Th.zar n) (if true then ae++Th.texts l else ae) [] (l.take k) (parts.take k)))) (hR:W.ownsRow w.heap.size 9 1 (.slice (some ⟨g2,0,none⟩) k tc) (Th.texts (l.take k)).length (strCells (Th.texts (l.take k))))=>zgW hW ⟨t.s.toArray⟩ t.at_ hR (by simp[Th.texts];omega));have Hd:Hid (Th.zbq (Th.zar n) (if true then ae++Th.texts l else ae) [] (l.take (k+1)) (parts.take (k+1))=Th.zbq (Th.zar n) (if true then ae++Th.texts l else ae) [] (l.take k) (parts.take k)++((if (Th.texts (l.take k)).contains t.s then [t.at_] else [])++Th.zar n p (if true then ae++Th.texts l else ae))):=zab (by
     rw[Ht.o,Hp.o,zgG _ _ _ _ _ _ _ (by have:=H3.o;simp;omega)];simp)
    have dT:=zab aR;have HP:=zab hp;have pV:Hid (c≠wr.heap.size):=zab (by omega);clear fV hg ht hp eD aE af ib kL gl aR e0 e1 e2 eM fD gD;go_wp2_with fail
    go_region_with (go_at_call 69;refine (dn.o _ ?_ ?_).mono ?_;exact Blk.drew (Blk.alloc jQ.o _);exact (oE.o.alloc _).drew;rintro e w3 ⟨rfl,h3,aS⟩;have vp:=zab h3;have gC:=zab aS;have p2:w3.cell? ⟨wr.heap.size,2,none⟩=some (.iface pt px):=Blk.cell (Blk.grown (Blk.drew (Blk.new wr [.string ⟨t.s.toArray⟩,.int .i64 t.at_,.iface pt px] 312)) aS (by intro h;injection h with h;exact pV.o h.symm)) 2;clear h3 aS)
    all_goals
     have gZ:=zab (zad (zad (zad Hg.o (zag _ _ _)) (zbO _ _)) gC.o);obtain ⟨dL,eX,hin,dq⟩:=HB.o.2.2 k p HP.o;have hU:=zab (HX.o w3 c _ _ p _ _ S B m dL eX vp.o (dT.o.gb (zad (zad (zag _ _ _) (zbO _ _)) gC.o) (fun j hj=>by cases hj;exact HI.o.2.2.1)) hin (HB.o.1.gb gZ.o (fun j hj=>by cases hj;exact HB.o.2.1)) HI.o.2.2.1 HB.o.2.1 dq);clear hin dq;go_wp2_with fail
     refine hU.o.mono ?_;rintro en w5 ⟨rfl,jD,cH⟩;have jy:=zab (And.intro jD cH);clear jD cH p2;go_wp2_with fail
     go_roundg (l.length-(k+1))
     case measure=>omega
     case rel=>
      refine ⟨k+1,by go_num,by omega,zyN _,?_,zad gZ.o jy.o.2⟩;rw[Hd.o,zaQ,zaQ];exact jy.o.1
   ·have aG:k=l.length:=by omega
    have Hk:=zab aG;have rB:=fU.o.grown hg (by intro h;injection h with h;omega);have e3:=Blk.cell rB 2;simp at e3;clear fV hg aG e0 e1 e2 rB gD;have gZ:=zab (zad eK.o Hg.o);have hU:=zab (HX.o wr c _ _ b _ _ S _ m dm hi jQ.o (H7.o.gb gZ.o (fun j hj=>by cases hj;exact HI.o.2.2.1)) HI.o.2.1 (HK.o.gb Hg.o (fun j hj=>by cases hj;exact rF)) HI.o.2.2.1 rF HL.o.1);go_wp2_with fail
    refine hU.o.mono ?_;rintro en w5 ⟨rfl,jD,cH⟩;have jy:=zab (And.intro jD cH);clear jD cH;go_wp2_with fail
    go_end0
    refine ⟨rfl,?_,zad gZ.o jy.o.2⟩;have ho:=jy.o.1;rw[Hk.o,zy9 (zyN _),zy9 (Nat.le_of_eq H3.o)]at ho;rw[zaQ];exact ho
end Go.Proofs.YtgahgkddaljmkaaGreatDoor
namespace Go.Proofs.YtgahgkddaljmkaaGreatDoor
open Tryz
open Go.RowKit
variable {n:Nat}
variable {e:Th.Ex}
theorem znh(h:e.kind=1\/e.kind=3)(ar:List (List UInt8)):Th.zar (n+1) e ar=[]:=by
 rcases h with h|h <;> simp[Th.zar,h]
theorem zuX(h:e.kind=2)(ar:List (List UInt8)):Th.zar (n+1) e ar=if ar.contains e.tok.s then [] else [e.tok.at_]:=by simp[Th.zar,h]
variable {e1 e2:Th.Ex}
theorem zq4(h:e.kind=5\/e.kind=6)(hk:e.kids=[e1,e2])(ar:List (List UInt8)):Th.zar (n+1) e ar=Th.zar n e1 ar++Th.zar n e2 ar:=by
 rcases h with h|h <;> simp[Th.zar,h,hk]
variable {b:Th.Ex}
theorem zuV(h:e.kind=4)(hk:e.kids=[b])(ar:List (List UInt8)):Th.zar (n+1) e ar=Th.zjc [] e.names++Th.zar n b (ar++Th.texts e.names):=by simp[Th.zar,h,hk]
theorem zuW{ps:List Th.Ex}(h:e.kind=7\/e.kind=8)(hk:e.kids=b::ps)(ar:List (List UInt8)):Th.zar (n+1) e ar=Th.zbq (Th.zar n) (if (e.kind == 8) then ar++Th.texts e.names else ar) [] e.names ps++Th.zar n b (ar++Th.texts e.names):=by
 rcases h with h|h <;> simp[Th.zar,h,hk]
theorem zqa{ps:List Th.Ex}(h:e.kind=9)(hk:e.kids=b::ps)(ar:List (List UInt8)):Th.zar (n+1) e ar=Th.zar n b ar++Th.zeG (Th.zar n) ar e.zao ps:=by simp[Th.zar,h,hk]
theorem zmS(x:Value)(w:World):(Instr.typeAssert (.iface 217 x) 91 215 true).run prog w=.ok (.tuple #[.agg #[.string ⟨#[]⟩,.int .i64 0],.bool false]) w:=by kernel_rfl
theorem zkO(x:Value)(w:World):(Instr.typeAssert (.iface 217 x) 91 163 true).run prog w=.ok (.tuple #[.agg #[.nilIface,.nilIface],.bool false]) w:=by kernel_rfl
theorem zgw(x:Value)(w:World):(Instr.typeAssert (.iface 217 x) 91 166 true).run prog w=.ok (.tuple #[.agg #[.string ⟨#[]⟩,.nilIface,.nilIface],.bool false]) w:=by kernel_rfl
theorem zmR(x:Value)(w:World):(Instr.typeAssert (.iface 217 x) 91 178 true).run prog w=.ok (.tuple #[.agg #[.bool false,.slice none 0 0,.nilIface],.bool false]) w:=by kernel_rfl
theorem zkP(x:Value)(w:World):(Instr.typeAssert (.iface 217 x) 91 173 true).run prog w=.ok (.tuple #[.agg #[.nilIface,.slice none 0 0],.bool false]) w:=by kernel_rfl
theorem ziz(x:Value)(w:World):(Instr.typeAssert (.iface 217 x) 91 226 true).run prog w=.ok (.tuple #[.agg #[.slice none 0 0,.nilIface],.bool false]) w:=by kernel_rfl
theorem zou(x:Value)(w:World):(Instr.typeAssert (.iface 219 x) 91 215 true).run prog w=.ok (.tuple #[.agg #[.string ⟨#[]⟩,.int .i64 0],.bool false]) w:=by kernel_rfl
theorem zmP(x:Value)(w:World):(Instr.typeAssert (.iface 219 x) 91 163 true).run prog w=.ok (.tuple #[.agg #[.nilIface,.nilIface],.bool false]) w:=by kernel_rfl
theorem zhe(x:Value)(w:World):(Instr.typeAssert (.iface 219 x) 91 166 true).run prog w=.ok (.tuple #[.agg #[.string ⟨#[]⟩,.nilIface,.nilIface],.bool false]) w:=by kernel_rfl
theorem zot(x:Value)(w:World):(Instr.typeAssert (.iface 219 x) 91 178 true).run prog w=.ok (.tuple #[.agg #[.bool false,.slice none 0 0,.nilIface],.bool false]) w:=by kernel_rfl
theorem zmQ(x:Value)(w:World):(Instr.typeAssert (.iface 219 x) 91 173 true).run prog w=.ok (.tuple #[.agg #[.nilIface,.slice none 0 0],.bool false]) w:=by kernel_rfl
theorem zj0(x:Value)(w:World):(Instr.typeAssert (.iface 219 x) 91 226 true).run prog w=.ok (.tuple #[.agg #[.slice none 0 0,.nilIface],.bool false]) w:=by kernel_rfl
theorem zr9(x:Value)(w:World):(Instr.typeAssert (.iface 215 x) 91 215 true).run prog w=.ok (.tuple #[x,.bool true]) w:=by kernel_rfl
theorem zpY(x:Value)(w:World):(Instr.typeAssert (.iface 163 x) 91 215 true).run prog w=.ok (.tuple #[.agg #[.string ⟨#[]⟩,.int .i64 0],.bool false]) w:=by kernel_rfl
theorem zoq(x:Value)(w:World):(Instr.typeAssert (.iface 163 x) 91 163 true).run prog w=.ok (.tuple #[x,.bool true]) w:=by kernel_rfl
theorem ziA(x:Value)(w:World):(Instr.typeAssert (.iface 166 x) 91 215 true).run prog w=.ok (.tuple #[.agg #[.string ⟨#[]⟩,.int .i64 0],.bool false]) w:=by kernel_rfl
theorem zh0(x:Value)(w:World):(Instr.typeAssert (.iface 166 x) 91 163 true).run prog w=.ok (.tuple #[.agg #[.nilIface,.nilIface],.bool false]) w:=by kernel_rfl
theorem zcv(x:Value)(w:World):(Instr.typeAssert (.iface 166 x) 91 166 true).run prog w=.ok (.tuple #[x,.bool true]) w:=by kernel_rfl
theorem zr8(x:Value)(w:World):(Instr.typeAssert (.iface 178 x) 91 215 true).run prog w=.ok (.tuple #[.agg #[.string ⟨#[]⟩,.int .i64 0],.bool false]) w:=by kernel_rfl
theorem zp1(x:Value)(w:World):(Instr.typeAssert (.iface 178 x) 91 163 true).run prog w=.ok (.tuple #[.agg #[.nilIface,.nilIface],.bool false]) w:=by kernel_rfl
theorem ziy(x:Value)(w:World):(Instr.typeAssert (.iface 178 x) 91 166 true).run prog w=.ok (.tuple #[.agg #[.string ⟨#[]⟩,.nilIface,.nilIface],.bool false]) w:=by kernel_rfl
theorem zr7(x:Value)(w:World):(Instr.typeAssert (.iface 178 x) 91 178 true).run prog w=.ok (.tuple #[x,.bool true]) w:=by kernel_rfl
theorem zp0(x:Value)(w:World):(Instr.typeAssert (.iface 173 x) 91 215 true).run prog w=.ok (.tuple #[.agg #[.string ⟨#[]⟩,.int .i64 0],.bool false]) w:=by kernel_rfl
theorem zor(x:Value)(w:World):(Instr.typeAssert (.iface 173 x) 91 163 true).run prog w=.ok (.tuple #[.agg #[.nilIface,.nilIface],.bool false]) w:=by kernel_rfl
theorem zhZ(x:Value)(w:World):(Instr.typeAssert (.iface 173 x) 91 166 true).run prog w=.ok (.tuple #[.agg #[.string ⟨#[]⟩,.nilIface,.nilIface],.bool false]) w:=by kernel_rfl
theorem zpZ(x:Value)(w:World):(Instr.typeAssert (.iface 173 x) 91 178 true).run prog w=.ok (.tuple #[.agg #[.bool false,.slice none 0 0,.nilIface],.bool false]) w:=by kernel_rfl
theorem zos(x:Value)(w:World):(Instr.typeAssert (.iface 173 x) 91 173 true).run prog w=.ok (.tuple #[x,.bool true]) w:=by kernel_rfl
theorem zmO(x:Value)(w:World):(Instr.typeAssert (.iface 226 x) 91 215 true).run prog w=.ok (.tuple #[.agg #[.string ⟨#[]⟩,.int .i64 0],.bool false]) w:=by kernel_rfl
theorem zkM(x:Value)(w:World):(Instr.typeAssert (.iface 226 x) 91 163 true).run prog w=.ok (.tuple #[.agg #[.nilIface,.nilIface],.bool false]) w:=by kernel_rfl
theorem zgv(x:Value)(w:World):(Instr.typeAssert (.iface 226 x) 91 166 true).run prog w=.ok (.tuple #[.agg #[.string ⟨#[]⟩,.nilIface,.nilIface],.bool false]) w:=by kernel_rfl
theorem zmN(x:Value)(w:World):(Instr.typeAssert (.iface 226 x) 91 178 true).run prog w=.ok (.tuple #[.agg #[.bool false,.slice none 0 0,.nilIface],.bool false]) w:=by kernel_rfl
theorem zkN(x:Value)(w:World):(Instr.typeAssert (.iface 226 x) 91 173 true).run prog w=.ok (.tuple #[.agg #[.nilIface,.slice none 0 0],.bool false]) w:=by kernel_rfl
theorem zix(x:Value)(w:World):(Instr.typeAssert (.iface 226 x) 91 226 true).run prog w=.ok (.tuple #[x,.bool true]) w:=by kernel_rfl
variable {w:World}
variable {c:Nat}
variable {o:Option Nat}
variable {av:Value}
variable {ae:List (List UInt8)}
variable {A:Nat->Prop}
theorem znO(hc:Chk w c o)(ha:Row A w 9 1 av ae.length (strCells ae)){v:Value}(hv:(∃ n:Int,v=.iface 217 (.agg #[.int .i64 n]))\/∃ a b:Int,v=.iface 219 (.agg #[.int .i64 a,.int .i64 b])):
  Calls prog 71 #[.pointer (some ⟨c,0,none⟩),v,av] w fun en w'=>en=.returned (.tuple #[])/\Chk w' c o/\w.grownBy w' (some c):=by
 obtain ⟨aa,an,ac,rfl⟩:=zae ha;have HC:=zab hc;clear hc ha;rcases hv with ⟨n,rfl⟩|⟨a,b,rfl⟩
 ·have h1:=zmS;have h2:=zkO;have h3:=zgw;have h4:=zmR;have h5:=zkP;have h6:=ziz;go_enter func71,ntmps71
  go_wp2_with fail
  go_end0
  exact ⟨rfl,HC.o,zcT _ _⟩
 ·have h1:=zou;have h2:=zmP;have h3:=zhe;have h4:=zot;have h5:=zmQ;have h6:=zj0;go_enter func71,ntmps71
  go_wp2_with fail
  go_end0
  exact ⟨rfl,HC.o,zcT _ _⟩
theorem zvu(hc:Chk w c o)(ha:Row A w 9 1 av ae.length (strCells ae))(hl:ae.length<=1000000)(s:ByteArray)(p:Nat):
  Calls prog 71 #[.pointer (some ⟨c,0,none⟩),.iface 215 (.agg #[.string s,.int .i64 p]),av] w fun en w'=>en=.returned (.tuple #[])/\Chk w' c (after o (if ae.contains s.data.toList then [] else [p]))/\w.grownBy w' (some c):=by
 obtain ⟨aa,an,ac,rfl⟩:=zae ha;have HC:=zab hc;have HA:=zab ha;clear hc ha;have h1:=zr9;cases iG:ae.contains s.data.toList
 ·have vw:=zab iG;clear iG;go_enter func71,ntmps71
  go_wp2_with fail
  refine (zcJ (HA.o.1.alloc _) hl s).mono ?_;rintro e w1 ⟨rfl,rfl⟩;rw[vw.o];go_wp2_with fail
  refine (znt (Blk.alloc HC.o _) s p).mono ?_;rintro e w2 ⟨rfl,h2,aF⟩;have H2:=zab (And.intro h2 (zad (zag _ _ _) aF));clear h2 aF;go_wp2_with fail
  go_end0
  exact ⟨rfl,H2.o.1,H2.o.2⟩
 ·have vw:=zab iG;clear iG;go_enter func71,ntmps71
  go_wp2_with fail
  refine (zcJ (HA.o.1.alloc _) hl s).mono ?_;rintro e w1 ⟨rfl,rfl⟩;rw[vw.o];go_wp2_with fail
  go_end0
  refine ⟨rfl,?_,zag _ _ _⟩;rw[zbZ];exact Blk.alloc HC.o _
variable {S:Nat->Prop}
variable {m lo dm hi:Nat}
theorem zsY(hx:zwK n){v1 v2:Value}(hc:Chk w c o)(dd:Rep S w m v1 e1)(cg:Rep S w m v2 e2)(h1:Th.In n e1 lo dm)(h2:Th.In n e2 dm hi)(ha:Row A w 9 1 av ae.length (strCells ae))(hS:¬ S c)(hA:¬ A c)(hb:ae.length+(hi-lo)<=1000000):
  Calls prog 71 #[.pointer (some ⟨c,0,none⟩),.iface 163 (.agg #[ v1,v2]),av] w fun en w'=>en=.returned (.tuple #[])/\Chk w' c (after o (Th.zar n e1 ae++Th.zar n e2 ae))/\w.grownBy w' (some c):=by
 obtain ⟨aa,an,ac,rfl⟩:=zae ha;obtain ⟨t1,x1,rfl⟩:=zah dd;obtain ⟨t2,x2,rfl⟩:=zah cg;have aL:=h1.le;have aC:=h2.le;have aN:=hc.lt;have g1:=zpY;have g2:=zoq;have g3:=zcv;have dE:=zag w (.cells #[ .iface t1 x1,.iface t2 x2] 163) (some c);have hE:=Blk.new w [ .iface t1 x1,.iface t2 x2] 163;have fE:=zab (hx _ c o _ e1 _ ae S A m lo dm (hc.gb (zag w (.cells #[ .iface t1 x1,.iface t2 x2] 163) none) (by simp)) (dd.gb dE (fun j hj=>by cases hj;exact hS)) h1 (ha.gb dE (fun j hj=>by cases hj;exact hA)) hS hA (by omega));have eP:=zab (fun (W:World) (o':Option Nat) (hW:Chk W c o') (hg:w.grownBy W (some c))=>hx W c o' _ e2 _ ae S A m dm hi hW (cg.gb hg (fun j hj=>by cases hj;exact hS)) h2 (ha.gb hg (fun j hj=>by cases hj;exact hA)) hS hA (by omega));have eQ:=zab dE;have HE:=zab hE;clear hc dd cg h1 h2 ha hS hA hx aL aC hb dE hE;go_enter func71,ntmps71
 go_wp2_with fail
 refine fE.o.mono ?_;rintro en w1 ⟨rfl,bH,bw⟩;have oJ:=Blk.cell (Blk.grown HE.o bw (by intro h;injection h with h;omega)) 1;simp at oJ;have jN:=zab (eP.o w1 _ bH (zad eQ.o bw));have gY:=zab (zad eQ.o bw);clear bH bw fE eP;go_wp2_with fail
 refine jN.o.mono ?_;rintro en w2 ⟨rfl,bT,aF⟩;have H2:=zab (And.intro bT aF);clear bT aF;go_wp2_with fail
 go_end0
 exact ⟨rfl,by rw[zaQ];exact H2.o.1,zad gY.o H2.o.2⟩
theorem zxl(hx:zwK n){v1 v2:Value}(s:ByteArray)(hc:Chk w c o)(dd:Rep S w m v1 e1)(cg:Rep S w m v2 e2)(h1:Th.In n e1 lo dm)(h2:Th.In n e2 dm hi)(ha:Row A w 9 1 av ae.length (strCells ae))(hS:¬ S c)(hA:¬ A c)(hb:ae.length+(hi-lo)<=1000000):
  Calls prog 71 #[.pointer (some ⟨c,0,none⟩),.iface 166 (.agg #[.string s ,v1,v2]),av] w fun en w'=>en=.returned (.tuple #[])/\Chk w' c (after o (Th.zar n e1 ae++Th.zar n e2 ae))/\w.grownBy w' (some c):=by
 obtain ⟨aa,an,ac,rfl⟩:=zae ha;obtain ⟨t1,x1,rfl⟩:=zah dd;obtain ⟨t2,x2,rfl⟩:=zah cg;have aL:=h1.le;have aC:=h2.le;have aN:=hc.lt;have g1:=ziA;have g2:=zh0;have g3:=zcv;have dE:=zag w (.cells #[.string s ,.iface t1 x1,.iface t2 x2] 166) (some c);have hE:=Blk.new w [.string s ,.iface t1 x1,.iface t2 x2] 166;have fE:=zab (hx _ c o _ e1 _ ae S A m lo dm (hc.gb (zag w (.cells #[.string s ,.iface t1 x1,.iface t2 x2] 166) none) (by simp)) (dd.gb dE (fun j hj=>by cases hj;exact hS)) h1 (ha.gb dE (fun j hj=>by cases hj;exact hA)) hS hA (by omega));have eP:=zab (fun (W:World) (o':Option Nat) (hW:Chk W c o') (hg:w.grownBy W (some c))=>hx W c o' _ e2 _ ae S A m dm hi hW (cg.gb hg (fun j hj=>by cases hj;exact hS)) h2 (ha.gb hg (fun j hj=>by cases hj;exact hA)) hS hA (by omega));have eQ:=zab dE;have HE:=zab hE;clear hc dd cg h1 h2 ha hS hA hx aL aC hb dE hE;go_enter func71,ntmps71
 go_wp2_with fail
 refine fE.o.mono ?_;rintro en w1 ⟨rfl,bH,bw⟩;have oJ:=Blk.cell (Blk.grown HE.o bw (by intro h;injection h with h;omega)) 2;simp at oJ;have jN:=zab (eP.o w1 _ bH (zad eQ.o bw));have gY:=zab (zad eQ.o bw);clear bH bw fE eP;go_wp2_with fail
 refine jN.o.mono ?_;rintro en w2 ⟨rfl,bT,aF⟩;have H2:=zab (And.intro bT aF);clear bT aF;go_wp2_with fail
 go_end0
 exact ⟨rfl,by rw[zaQ];exact H2.o.1,zad gY.o H2.o.2⟩
end Go.Proofs.YtgahgkddaljmkaaGreatDoor
namespace Go.Proofs.YtgahgkddaljmkaaGreatDoor
open Tryz
open Go.RowKit
attribute [local go_sem ↓] Go.wp_at_zero Go.wp_at_succ
variable {n:Nat}
variable {w:World}
variable {c:Nat}
variable {o:Option Nat}
variable {av:Value}
variable {l:List Th.Tok}
variable {e:Th.Ex}
variable {ae:List (List UInt8)}
variable {S A:Nat->Prop}
variable {m lo dm hi:Nat}
theorem zvs(hx:zwK n){nv v:Value}(hc:Chk w c o)(hn:Row S w 88 2 nv l.length (zaj l))(hr:Rep S w m v e)(h1:Th.zcx lo dm l)(h2:Th.In n e dm hi)(ha:Row A w 9 1 av ae.length (strCells ae))(hS:¬ S c)(hA:¬ A c)(hb:ae.length+(hi-lo)<=1000000):
  Calls prog 71 #[.pointer (some ⟨c,0,none⟩),.iface 226 (.agg #[nv,v]),av] w fun en w'=>en=.returned (.tuple #[])/\Chk w' c (after o (Th.zjc [] l++Th.zar n e (ae++Th.texts l)))/\w.grownBy w' (some c):=by
 obtain ⟨aa,an,ac,rfl⟩:=zae ha;obtain ⟨na,nn,nc,rfl⟩:=zae hn;obtain ⟨t,x,rfl⟩:=zah hr;have g1:=zmO;have g2:=zkM;have g3:=zgv;have g4:=zmN;have g5:=zkN;have g6:=zix;have dE:=zag w (.cells #[.slice na nn nc,.iface t x] 226) (some c);have dn:=zab (zlw hx (hc.gb (zag w (.cells #[.slice na nn nc,.iface t x] 226) none) (by simp)) (hn.gb dE (fun j hj=>by cases hj;exact hS)) (hr.gb dE (fun j hj=>by cases hj;exact hS)) h1 h2 (ha.gb dE (fun j hj=>by cases hj;exact hA)) hS hA hb);have eQ:=zab dE;clear hc hn hr h1 h2 ha hS hA hx hb dE;go_enter func71,ntmps71
 go_wp2_with fail
 refine dn.o.mono ?_;rintro en w2 ⟨rfl,bT,aF⟩;have H2:=zab (And.intro bT aF);clear bT aF;go_wp2_with fail
 go_end0
 exact ⟨rfl,H2.o.1,zad eQ.o H2.o.2⟩
variable {sv:Value}
variable {b:Th.Ex}
theorem zvt(hx:zwK n){r:Bool}{bv:Value}{parts:List Th.Ex}{pvs:List Value}(hc:Chk w c o)(h3:parts.length=l.length)(h4:pvs.length=l.length)(h5:Row S w 312 3 sv l.length (zaM l pvs))(h6:∀ (i:Nat) (pv:Value) (p:Th.Ex),pvs[i]?=some pv->parts[i]?=some p->Rep S w m pv p)(h7:Rep S w m bv b)(h1:Th.zbd (Th.In n) lo dm l parts)(h2:Th.In n b dm hi)(ha:Row A w 9 1 av ae.length (strCells ae))(hS:¬ S c)(hA:¬ A c)(hb:ae.length+(hi-lo)<=1000000):
  Calls prog 71 #[.pointer (some ⟨c,0,none⟩),.iface 178 (.agg #[.bool r,sv,bv]),av] w fun en w'=>en=.returned (.tuple #[])/\Chk w' c (after o (Th.zbq (Th.zar n) (if r then ae++Th.texts l else ae) [] l parts++Th.zar n b (ae++Th.texts l)))/\w.grownBy w' (some c):=by
 obtain ⟨aa,an,ac,rfl⟩:=zae ha;obtain ⟨na,nn,nc,rfl⟩:=zae h5;obtain ⟨t,x,rfl⟩:=zah h7;have g1:=zr8;have g2:=zp1;have g3:=ziy;have g4:=zr7;have dE:=zag w (.cells #[.bool r,.slice na nn nc,.iface t x] 178) (some c);have dn:=zab (zxw (r:=r) hx (hc.gb (zag w (.cells #[.bool r,.slice na nn nc,.iface t x] 178) none) (by simp)) h3 h4 (h5.gb dE (fun j hj=>by cases hj;exact hS)) (fun i pv p hp hq=>(h6 i pv p hp hq).gb dE (fun j hj=>by cases hj;exact hS)) (h7.gb dE (fun j hj=>by cases hj;exact hS)) h1 h2 (ha.gb dE (fun j hj=>by cases hj;exact hA)) hS hA hb);have eQ:=zab dE;clear hc h3 h4 h5 h6 h7 h1 h2 ha hS hA hx hb dE;generalize (Th.zbq (Th.zar n) (if r then ae++Th.texts l else ae) [] l parts++Th.zar n b (ae++Th.texts l))=L at dn ⊢;go_enter func71,ntmps71
 go_wp2_with fail
 refine dn.o.mono ?_;rintro en w2 ⟨rfl,bT,aF⟩;have H2:=zab (And.intro bT aF);clear bT aF;go_wp2_with fail
 go_end0
 exact ⟨rfl,H2.o.1,zad eQ.o H2.o.2⟩
theorem zlY(wr:Th.Ex->List (List UInt8)->List Nat)(ar:List (List UInt8)):∀ (l:List (Nat × List Th.Tok)) (es:List Th.Ex) (a:Nat × List Th.Tok) (e:Th.Ex),l.length=es.length ->
  Th.zeG wr ar (l++[a]) (es++[e])=Th.zeG wr ar l es++(Th.zjc [] a.2++wr e (ar++Th.texts a.2))
 |[],[],a,e,_=>by simp[Th.zeG]
 |x::l,y::es,a,e,h=>by
  simp only[zy7,Th.zeG];rw[zlY wr ar l es a e (by simpa using h)];simp
 |[],_::_,_,_,h=>by simp at h
 |_::_,[],_,_,h=>by simp at h
theorem zla{n:Nat}:∀ {lo hi:Nat} {l:List (Nat × List Th.Tok)} {es:List Th.Ex},Th.zcb (Th.In n) lo hi l es->∀ (k:Nat) (a:Nat × List Th.Tok) (p:Th.Ex),l[k]?=some a->es[k]?=some p->∃ dL m' eX,Th.zcx dL m' a.2/\Th.In n p m' eX/\eX - dL<=hi-lo
 |lo,hi,[],[],_,k,a,p,ha,hp=>by simp at hp
 |lo,hi,t::r,e::es,h,0,a,p,ha,hp=>by
  obtain ⟨m1,m2,h1,h2,h3⟩:=h;simp only[zzl,zyP]at ha hp;subst ha hp;have:=Th.zcb.len h3;have:=Th.In.le h2;exact ⟨_,_,_,h1,h2,by omega⟩
 |lo,hi,t::r,e::es,h,k+1,a,p,ha,hp=>by
  obtain ⟨m1,m2,h1,h2,h3⟩:=h;have:=Th.zcb.len h3;have:=Th.In.le h2;have:=Th.zcx.len h1;obtain ⟨dL,m',eX,h4,h5,h6⟩:=zla h3 k a p (by simpa using ha) (by simpa using hp);exact ⟨dL,m',eX,h4,h5,by omega⟩
 |_,_,[],_::_,h,_,_,_,_,_=>h.elim
 |_,_,_::_,[],h,_,_,_,_,_=>h.elim
theorem zsZ(hx:zwK n){cv:Value}{zao:List (Nat × List Th.Tok)}{ag:List Th.Ex}{nvs bvs:List Value}(hc:Chk w c o)(h3:ag.length=zao.length)(h4:nvs.length=zao.length)(h5:bvs.length=zao.length)(h6:Row S w 240 3 sv zao.length (za7 zao nvs bvs))(h7:∀ (i:Nat) (a:Nat × List Th.Tok) (nv:Value),zao[i]?=some a->nvs[i]?=some nv->Row S w 88 2 nv a.2.length (zaj a.2))(h8:∀ (i:Nat) (bv:Value) (p:Th.Ex),bvs[i]?=some bv->ag[i]?=some p->Rep S w m bv p)(h9:Rep S w m cv b)(h1:Th.In n b lo dm)(h2:Th.zcb (Th.In n) dm hi zao ag)(ha:Row A w 9 1 av ae.length (strCells ae))(hS:¬ S c)(hA:¬ A c)(hb:ae.length+(hi-lo)<=1000000):
  Calls prog 71 #[.pointer (some ⟨c,0,none⟩),.iface 173 (.agg #[cv,sv]),av] w fun en w'=>en=.returned (.tuple #[])/\Chk w' c (after o (Th.zar n b ae++Th.zeG (Th.zar n) ae zao ag))/\w.grownBy w' (some c):=by
 have aL:=h1.le;have aC:=h2.len;have aU:zao.length<=1000000:=by omega
 have aN:=hc.lt;obtain ⟨aa,an,ac,rfl⟩:=zae ha;have eM:=zan h6;obtain ⟨sa,sn,sc,rfl⟩:=zae h6;obtain ⟨t,x,rfl⟩:=zah h9;have fD:Hid (sn=zao.length):=zab (by
  rcases h6.1.2 with ⟨h,h0⟩|⟨_,_,_,h0,_⟩
  ·cases h;exact h0.symm
  ·cases h0;rfl)
 have g1:=zp0;have g2:=zor;have g3:=zhZ;have g4:=zpZ;have g5:=zos;have dE:=zag w (.cells #[.iface t x,.slice sa sn sc] 173) (some c);have HE:=zab (Blk.new w [.iface t x,.slice sa sn sc] 173);have fE:=zab (hx _ c o _ b _ ae S A m lo dm (hc.gb (zag w (.cells #[.iface t x,.slice sa sn sc] 173) none) (by simp)) (h9.gb dE (fun j hj=>by cases hj;exact hS)) h1 (ha.gb dE (fun j hj=>by cases hj;exact hA)) hS hA (by omega));have eQ:=zab dE;have H3:=zab h3;have H4:=zab h4;have H5:=zab h5;have H6:=zab h6;have H7:=zab h7;have H8:=zab h8;have HA:=zab ha;have HI:=zab (And.intro h2 (And.intro hS hA));have HL:Hid (ae.length+(hi-dm)<=1000000):=zab (by omega);have HX:=zab hx;clear hc h3 h4 h5 h6 h7 h8 h9 h1 h2 ha hS hA hx hb dE aL aC;go_enter func71,ntmps71
 go_wp2_with fail
 refine fE.o.mono ?_;rintro en w1 ⟨rfl,bH,bw⟩;have e1:=Blk.cell (Blk.grown HE.o bw (by intro h;injection h with h;omega)) 1;simp at e1;have gY:=zab (zad eQ.o bw);have lR:=zab bH;have cT:=(zad eQ.o bw).size;clear bH bw fE HE eQ;go_wp2_with fail
 have aK:=fD.o;subst aK
 go_loopg [72] zao.length (fun gk i wr=>∃ k:Nat,i=.int .i64 k/\k<=zao.length/\zao.length-k<=gk/\Chk wr c (after (after o (Th.zar n b ae)) (Th.zeG (Th.zar n) ae (zao.take k) (ag.take k)))/\w1.grownBy wr (some c))
 case atStart=>exact ⟨0,rfl,zy5 _,by omega,by rw[zzR,zzR,show Th.zeG (Th.zar n) ae [] []=[] from rfl,zbZ];exact lR.o,zcT _ _⟩
 case round=>
  obtain ⟨k,rfl,hk,jm,fV,hg⟩:=hrel;have jQ:=zab fV;have Hg:=zab hg;have cT:=hg.size;by_cases aj:k<zao.length
  ·obtain ⟨g,jw⟩:∃ g,sa=some ⟨g,0,none⟩:=by
    rcases eM with h|⟨g,cap,h⟩
    ·have:=(Value.slice.inj h).2.1;omega
    ·exact ⟨g,(Value.slice.inj h).1⟩
   subst jw;obtain ⟨a,ke⟩:∃ a,zao[k]?=some a:=⟨zao[k],zyM aj⟩;obtain ⟨p,hp⟩:∃ p,ag[k]?=some p:=⟨_,zyM (by rw[H3.o];exact aj)⟩;obtain ⟨nv,ay⟩:∃ nv,nvs[k]?=some nv:=⟨_,zyM (by rw[H4.o];exact aj)⟩;obtain ⟨bv,cC⟩:∃ bv,bvs[k]?=some bv:=⟨_,zyM (by rw[H5.o];exact aj)⟩;have fq:=zad gY.o hg;have aR:=(H8.o k bv p cC hp).gb fq (fun j hj=>by cases hj;exact HI.o.2.1);have eH:=(H7.o k a nv ke ay).gb fq (fun j hj=>by cases hj;exact HI.o.2.1);obtain ⟨pt,px,rfl⟩:=zah aR;obtain ⟨na,nn,nc,rfl⟩:=zae eH;have aE:=zdx zao nvs bvs k a _ _ ke ay cC;have af:=(H6.o.gb fq (fun j hj=>by cases hj;exact HI.o.2.1)).1;have c0:=(af.cellAt (k*3) (by omega)).trans aE.1;have c1:=(af.cellAt (k*3+1) (by omega)).trans aE.2.1;have c2:=(af.cellAt (k*3+2) (by omega)).trans aE.2.2;have fX:=(af.lt g rfl).2;obtain ⟨dL,m',eX,bJ,hin,dq⟩:=zla HI.o.1 k a p ke hp;have cH:=zag wr (.cells #[.int .i64 a.1,.slice na nn nc,.iface pt px] 240) (some c);have dn:=zab (zlw HX.o (fV.gb (zag wr (.cells #[.int .i64 a.1,.slice na nn nc,.iface pt px] 240) none) (by simp)) (eH.gb cH (fun j hj=>by cases hj;exact HI.o.2.1)) (aR.gb cH (fun j hj=>by cases hj;exact HI.o.2.1)) bJ hin (HA.o.gb (zad fq cH) (fun j hj=>by cases hj;exact HI.o.2.2)) HI.o.2.1 HI.o.2.2 (by have:=HL.o;omega));have lS:=zab (zad hg cH);have Ht:=zab (zaJ ke);have Hp:=zab (zaJ hp);have Hd:Hid (Th.zeG (Th.zar n) ae (zao.take (k+1)) (ag.take (k+1))=Th.zeG (Th.zar n) ae (zao.take k) (ag.take k)++(Th.zjc [] a.2++Th.zar n p (ae++Th.texts a.2))):=zab (by
    rw[Ht.o,Hp.o,zlY _ _ _ _ _ _ (by have:=H3.o;simp;omega)])
   clear fV hg ke hp ay cC fq aR eH aE af bJ hin dq cH e1 eM fD;go_wp2_with fail
   refine dn.o.mono ?_;rintro en w5 ⟨rfl,jD,cH⟩;have jy:=zab (And.intro jD cH);clear jD cH;go_wp2_with fail
   go_roundg (zao.length-(k+1))
   case measure=>omega
   case rel=>
    refine ⟨k+1,by go_num,by omega,zyN _,?_,zad lS.o jy.o.2⟩;rw[Hd.o,zaQ];exact jy.o.1
  ·have aG:k=zao.length:=by omega
   have Hk:=zab aG;clear fV hg aG;go_wp2_with fail
   go_end0
   refine ⟨rfl,?_,zad gY.o Hg.o⟩;have ho:=jQ.o;rw[Hk.o,zy9 (zyN _),zy9 (Nat.le_of_eq H3.o)]at ho;rw[zaQ];exact ho
theorem zqq:∀ (n:Nat),zwK n
 |0=>fun _ _ _ _ _ _ _ _ _ _ _ _ _ _ h=>h.elim
 |n+1=>fun w c o v e av ae S A m lo hi hc hr hin ha hS hA hb=>by
  have ih:=zqq n;rcases m with _|m
  ·exact hr.elim
  obtain ⟨hle,hin⟩:=hin;rcases hr with ⟨hk,rfl⟩|⟨hk,rfl⟩|⟨hk,rfl⟩|⟨hk,sv,bv,b,h1,rfl,h3,h4⟩|⟨hk,v1,v2,e1,e2,h1,rfl,h3,h4⟩|⟨hk,v1,v2,e1,e2,h1,rfl,h3,h4⟩|⟨hk,sv,bv,b,parts,pvs,h1,rfl,h3,h4,h5,h6,h7⟩|⟨hk,cv,sv,b,ag,nvs,bvs,h1,rfl,h3,h4,h5,h6,h7,h8,h9⟩
  ·rw[znh (.inl hk),zbZ];exact znO hc ha (.inl ⟨_,rfl⟩)
  ·rw[zuX hk];exact zvu hc ha (by omega) ⟨e.tok.s.toArray⟩ e.tok.at_
  ·rw[znh (.inr hk),zbZ];exact znO hc ha (.inr ⟨_,_,rfl⟩)
  ·rw[zuV hk h1];rcases hin with h|h|⟨_,b',dm,i1,i2,i3⟩|⟨h,_⟩|⟨h,_⟩|⟨h,_⟩
   ·omega
   ·omega
   ·rw[h1]at i1;cases i1;exact zvs ih hc h3 h4 i2 i3 ha hS hA hb
   ·omega
   ·omega
   ·omega
  ·rw[zq4 (.inl hk) h1];rcases hin with h|h|⟨h,_⟩|⟨_,a1,a2,dm,i1,i2,i3⟩|⟨h,_⟩|⟨h,_⟩
   ·omega
   ·omega
   ·omega
   ·rw[h1]at i1;cases i1;exact zsY ih hc h3 h4 i2 i3 ha hS hA hb
   ·omega
   ·omega
  ·rw[zq4 (.inr hk) h1];rcases hin with h|h|⟨h,_⟩|⟨_,a1,a2,dm,i1,i2,i3⟩|⟨h,_⟩|⟨h,_⟩
   ·omega
   ·omega
   ·omega
   ·rw[h1]at i1;cases i1;exact zxl ih _ hc h3 h4 i2 i3 ha hS hA hb
   ·omega
   ·omega
  ·rw[zuW hk h1];rcases hin with h|h|⟨h,_⟩|⟨h,_⟩|⟨_,b',ps,dm,i1,i2,i3⟩|⟨h,_⟩
   ·omega
   ·omega
   ·omega
   ·omega
   ·rw[h1]at i1;cases i1;exact zvt ih hc h3 h4 h5 h6 h7 i2 i3 ha hS hA hb
   ·omega
  ·rw[zqa hk h1];rcases hin with h|h|⟨h,_⟩|⟨h,_⟩|⟨h,_⟩|⟨_,b',ps,dm,i1,i2,i3⟩
   ·omega
   ·omega
   ·omega
   ·omega
   ·omega
   ·rw[h1]at i1;cases i1;exact zsZ ih hc h3 h4 h5 h6 h7 h8 h9 i2 i3 ha hS hA hb
end Go.Proofs.YtgahgkddaljmkaaGreatDoor
