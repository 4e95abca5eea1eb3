/- Scope6 .. Plain2 -/
import Derived.Test.YtgahgkddaljmkaaGreatDoorV6
set_option maxRecDepth 100000
set_option maxHeartbeats 4000000
namespace Go.Proofs.YtgahgkddaljmkaaGreatDoor
open Tryz
section
open Go.RowKit
namespace Th
def Me:Nat->Nat->List Tok->Prop
 |lo,hi,[]=>lo<=hi
 |lo,hi,t::r=>lo<=t.at_/\Me (t.at_+1) hi r
def Oc (P:Ex->Nat->Nat->Prop):Nat->Nat->List Tok->List Ex->Prop
 |lo,hi,[],[]=>lo<=hi
 |lo,hi,t::r,e::es=>lo<=t.at_/\∃m,P e (t.at_+1) m/\Oc P m hi r es
 |_,_,_,_=>False
def OW (P:Ex->Nat->Nat->Prop):Nat->Nat->List (Nat × List Tok)->List Ex->Prop
 |lo,hi,[],[]=>lo<=hi
 |lo,hi,a::r,e::es=>∃m1 m2,Me (lo+1) m1 a.2/\P e m1 m2/\OW P m2 hi r es
 |_,_,_,_=>False
def In:Nat->Ex->Nat->Nat->Prop
 |0,_,_,_=>False
 |n+1,e,lo,hi=>lo<=hi /\
  (((e.kind=1\/e.kind=3))\/(e.kind=2/\lo<=e.tok.at_/\e.tok.at_<hi) \/
   (e.kind=4/\∃b m,e.kids=[b]/\Me lo m e.names/\In n b m hi) \/
   ((e.kind=5\/e.kind=6)/\∃e1 e2 m,e.kids=[e1,e2]/\In n e1 lo m/\In n e2 m hi) \/
   ((e.kind=7\/e.kind=8)/\∃b parts m,e.kids=b::parts/\Oc (In n) lo m e.names parts/\In n b m hi) \/
   (e.kind=9/\∃b ag m,e.kids=b::ag/\In n b lo m/\OW (In n) m hi e.nA ag))
theorem Me.len:∀{lo hi:Nat}{l:List Tok},Me lo hi l->lo+l.length<=hi
 |lo,hi,[],h=>h
 |lo,hi,t::r,h=>by have:=Me.len h.2;have:=h.1;simp;omega
theorem In.le:∀{n:Nat}{e:Ex}{lo hi:Nat},In n e lo hi->lo<=hi
 |0,_,_,_,h=>h.elim
 |_+1,_,_,_,h=>h.1
theorem Oc.len{n:Nat}:∀{lo hi:Nat}{l:List Tok}{es:List Ex},Oc (In n) lo hi l es->lo+l.length<=hi
 |lo,hi,[],[],h=>h
 |lo,hi,t::r,e::es,h=>by obtain⟨h1,m,h2,h3⟩:=h;have:=Oc.len h3;have:=In.le h2;simp;omega
 |_,_,[],_::_,h=>h.elim
 |_,_,_::_,[],h=>h.elim
theorem OW.len{n:Nat}:∀{lo hi:Nat}{l:List (Nat × List Tok)}{es:List Ex},OW (In n) lo hi l es->lo+l.length<=hi
 |lo,hi,[],[],h=>h
 |lo,hi,a::r,e::es,h=>by obtain⟨m1,m2,h1,h2,h3⟩:=h;have:=OW.len h3;have:=In.le h2;have:=Me.len h1;simp;omega
 |_,_,[],_::_,h=>h.elim
 |_,_,_::_,[],h=>h.elim
end Th
def TD (n:Nat):Prop:=∀(w:World)(c:Nat)(o:Option Nat)(v:Value)(e:Th.Ex)(av:Value)(ae:List (List UInt8))(S A:Nat->Prop)(m lo hi:Nat),
 Mo w c o->qU S w m v e->Th.In n e lo hi->Row A w 9 1 av ae.length (strCells ae)->¬S c->¬A c->ae.length+(hi-lo)<=1000000 ->
  Calls prog 71 #[.pointer (some ⟨c,0,none⟩),v,av] w λen w'=>en=.returned (.tuple #[])/\Mo w' c (after o (Th.JL n e ae))/\w.grownBy w' (some c)
variable {n:Nat}{w:World}{c:Nat}{o:Option Nat}{v av:Value}{l:List Th.Tok}{e:Th.Ex}{ae:List (List UInt8)}{S A:Nat->Prop}{m lo dm hi:Nat}
theorem zlw(hx:TD n){nv:Value}(hc:Mo w c o)(hn:Row S w 88 2 nv l.length (Ms l))(hr:qU S w m v e)(h1:Th.Me lo dm l)(h2:Th.In n e dm hi)(ha:Row A w 9 1 av ae.length (strCells ae))(hS:¬S c)(hA:¬A c)(hb:ae.length+(hi-lo)<=1000000):
  Calls prog 122 #[.pointer (some ⟨c,0,none⟩),nv,v,av] w λen w'=>en=.returned (.tuple #[])/\Mo w' c (after o (Th.N0 [] l++Th.JL n e (ae++Th.texts l)))/\w.grownBy w' (some c):=by
 have aL:=h1.len;have aC:=h2.le;have aN:=hc.lt;have lp:l.length<=1000000:=by omega
 have aU:ae.length<=1000000:=by omega
 have E1:=JQ hr;have fD:=Jk hn;have jw:=Jk ha;have hd:=eu (zia hc hn hS lp);have HN:=eu hn;have HR:=eu hr;have HA:=eu ha;have HI:=eu (kK h2 (kK hS hA));have HL:Hid ((ae++Th.texts l).length+(hi-dm)<=1000000):=eu (by simp[Th.texts];omega);have HX:=eu hx;clear hc hn hr h1 h2 ha hS hA hb hx aL aC;obtain⟨t,x,rfl⟩:=E1;obtain⟨na,nn,nc,rfl⟩:=fD;obtain⟨aa,an,ac,rfl⟩:=jw;go_enter func122,ntmps122;go_wp2_with fail;refine hd.o.mono ?_;rintro en w1⟨rfl,bH,bw⟩;have HC:=eu bH;have HG:=eu bw;have cR:=HN.o.gb bw (λj hj=>by cases hj;exact HI.o.2.1);have ht:=eu (W7 cR lp);have cT:=bw.size;clear bH bw cR;go_wp2_with fail;refine ht.o.mono ?_;rintro en w2⟨tv,rfl,eC,aw⟩;obtain⟨ta,tn,tc,rfl⟩:=Jk (lP eC);have j6:=aw.size;have eK:=eu (qN HG.o (Bj (some c) aw));have ua:=eu (HC.o.below aw);have HT:Hid (w2.ownsRow w1.heap.size 9 1 (.slice ta tn tc) (Th.texts l).length (strCells (Th.texts l))):=eu (by simpa[Th.texts]using eC);clear eC aw hd ht;go_wp2_with fail;have ic:=Yt (HA.o.gb eK.o (λj hj=>by cases hj;exact HI.o.2.2)) (lP HT.o) aU (by simpa[Th.texts]using lp);refine ic.mono ?_;clear ic;rintro en w3⟨ka,kn,kc,rfl,hK,bD⟩;have aS:=qN eK.o (Bj (some c) bD);have hU:=eu (HX.o w3 c _ _ e _ _ S _ m dm hi (ua.o.below bD) (HR.o.gb aS (λj hj=>by cases hj;exact HI.o.2.1)) HI.o.1 hK HI.o.2.1 (by show¬(w2.heap.size<=c);omega) HL.o);have gC:=eu aS;clear hK bD aS;go_wp2_with fail;refine hU.o.mono ?_;rintro en w4⟨rfl,jj,bM⟩;have H4:=eu (kK jj bM);clear jj bM;go_wp2;go_end0
 exact⟨rfl,by rw[Qh];exact H4.o.1,qN gC.o H4.o.2⟩
end
section
open Go.RowKit
attribute [local go_sem ↓] Go.wp_at_zero Go.wp_at_succ
theorem zgG(wr:Th.Ex->List (List UInt8)->List Nat)(ar:List (List UInt8)):∀(seen:List (List UInt8))(l:List Th.Tok)(es:List Th.Ex)(t:Th.Tok)(e:Th.Ex),l.length=es.length ->
  Th.Nc wr ar seen (l++[t]) (es++[e])=Th.Nc wr ar seen l es++((if(seen++Th.texts l).contains t.s then[t.at_]else[])++wr e ar)
 |seen,[],[],t,e,_=>by simp[Th.Nc,Th.texts]
 |seen,x::l,y::es,t,e,h=>by simp only[MP,Th.Nc];rw[zgG wr ar (seen++[x.s]) l es t e (by simpa using h)];simp[Th.texts]
 |_,[],_::_,_,_,h=>by simp at h
 |_,_::_,[],_,_,h=>by simp at h
theorem zgh{n:Nat}:∀{lo hi:Nat}{l:List Th.Tok}{es:List Th.Ex},Th.Oc (Th.In n) lo hi l es->∀(k:Nat)(p:Th.Ex),es[k]?=some p->∃dL eX,Th.In n p dL eX/\l.length+(eX - dL)<=hi-lo
 |lo,hi,[],[],_,k,p,hp=>by simp at hp
 |lo,hi,t::r,e::es,h,0,p,hp=>by obtain⟨h1,m,h2,h3⟩:=h;simp only[Pk,IA]at hp;subst hp;have:=Th.Oc.len h3;have:=Th.In.le h2;exact⟨_,_,h2,by simp;omega⟩
 |lo,hi,t::r,e::es,h,k+1,p,hp=>by obtain⟨h1,m,h2,h3⟩:=h;have:=Th.Oc.len h3;have:=Th.In.le h2;obtain⟨dL,eX,h4,h5⟩:=zgh h3 k p (by simpa using hp);exact⟨dL,eX,h4,by simp;omega⟩
 |_,_,[],_::_,h,_,_,_=>h.elim
 |_,_,_::_,[],h,_,_,_=>h.elim
variable {n:Nat}{w:World}{c:Nat}{o:Option Nat}{sv av:Value}{l:List Th.Tok}{b:Th.Ex}{ae:List (List UInt8)}{S A:Nat->Prop}{m lo dm hi:Nat}
theorem zxw(hx:TD n){r:Bool}{bv:Value}{parts:List Th.Ex}{pvs:List Value}(hc:Mo w c o)(h3:parts.length=l.length)(h4:pvs.length=l.length)(h5:Row S w 312 3 sv l.length (Ob l pvs))(h6:∀(i:Nat)(pv:Value)(p:Th.Ex),pvs[i]?=some pv->parts[i]?=some p->qU S w m pv p)(h7:qU S w m bv b)(h1:Th.Oc (Th.In n) lo dm l parts)(h2:Th.In n b dm hi)(ha:Row A w 9 1 av ae.length (strCells ae))(hS:¬S c)(hA:¬A c)(hb:ae.length+(hi-lo)<=1000000):
  Calls prog 121 #[.pointer (some ⟨c,0,none⟩),.agg #[.bool r,sv,bv],av] w λen w'=>en=.returned (.tuple #[])/\Mo w' c (after o (Th.Nc (Th.JL n) (if r then ae++Th.texts l else ae) [] l parts++Th.JL n b (ae++Th.texts l)))/\w.grownBy w' (some c):=by
 have aL:=h1.len;have aC:=h2.le;have aN:=hc.lt;have lp:l.length<=1000000:=by omega
 have aU:ae.length<=1000000:=by omega
 have bR:∀(i:Nat)(pv:Value),pvs[i]?=some pv->pv.oneCell'=true:=λi pv hp=>by
  have:i<parts.length:=by rw[h3,<-h4];exact(Dq.1 hp).1
  exact(ztU (h6 i pv parts[i] hp (Iv this))).one
 have oA:=eu bR;obtain⟨t,x,rfl⟩:=JQ h7;obtain⟨aa,an,ac,rfl⟩:=Jk ha;have eM:=Mq h5;have HC:=eu hc;have H3:=eu h3;have H4:=eu h4;have H5:=eu h5;have H6:=eu h6;have H7:=eu h7;have HA:=eu ha;have HI:=eu (kK h1 (kK h2 (kK hS hA)));have HL:Hid ((ae++Th.texts l).length+(hi-dm)<=1000000/\ae.length+(dm-lo)<=1000000):=eu (by simp[Th.texts];omega);have HX:=eu hx;clear hc h3 h4 h5 h6 h7 ha h1 h2 hS hA hb hx aL aC bR;obtain⟨sa,sn,sc,E9⟩:∃sa sn sc,sv=.slice sa sn sc:=by
  rcases eM with h|⟨g,cap,h⟩
  .exact⟨_,_,_,h⟩
  .exact⟨_,_,_,h⟩
 subst E9;have hE:=gH w [.bool r,.slice sa sn sc,.iface t x] 178;have dE:=IS w (.cells #[.bool r,.slice sa sn sc,.iface t x] 178) (some c);have ek:=eu (Yh (rb:=r) (bt:=t) (bx:=x) (H5.o.gb dE (λj hj=>by cases hj;exact HI.o.2.2.1)) H4.o oA.o lp);have HE:=eu hE;have eQ:=eu dE;clear hE dE;go_enter func121,ntmps121;go_wp2_with fail;refine ek.o.mono ?_;rintro en w1⟨tv,rfl,eC,aA⟩;obtain⟨ta,tn,tc,rfl⟩:=Jk (lP eC);have x8:w.heap.size<w1.heap.size:=by have:=aA.size;have:=HE.o.lt;omega
 have my:=eu (HE.o.below aA HE.o.lt);have gY:=eu (qN eQ.o (Bj (some c) aA));have lR:=eu ((HC.o.gb (IS _ _ none) (by simp)).below aA);have HT:Hid (w1.ownsRow w.heap.size 9 1 (.slice ta tn tc) (Th.texts l).length (strCells (Th.texts l))):=eu (by refine Ou ?_ (IS w (.cells #[.bool r,.slice sa sn sc,.iface t x] 178) none).size;simpa[Th.texts]using eC)
 have e0:=al my.o 0;have e1:=al my.o 1;have e2:=al my.o 2;simp at e0 e1 e2;clear eC aA ek HC HE eQ;go_wp2_with fail;have ic:=Yt (HA.o.gb gY.o (λj hj=>by cases hj;exact HI.o.2.2.2)) (lP HT.o) aU (by simpa[Th.texts]using lp);refine ic.mono ?_;clear ic e0 e1 e2;rintro en w2⟨ka,kn,kc,rfl,hK,aw⟩;have eK:=eu (qN gY.o (Bj (some c) aw));have ua:=eu (lR.o.below aw);have ze:=eu (HT.o.kept (Bj none aw) (PQ _));have fU:=eu (my.o.below aw my.o.lt);have HK:=eu hK;have j6:=aw.size;have e0:=al fU.o 0;have e1:=al fU.o 1;have e2:=al fU.o 2;simp at e0 e1 e2;clear hK aw gY lR HT my;have rF:¬(w1.heap.size<=c):=by omega
 have gD:Hid (∀(sd:Bool)(q:Value),q=(if sd then .slice ka kn kc else .slice aa an ac)->∃B:Nat->Prop,Row B w2 9 1 q (if sd then ae++Th.texts l else ae).length (strCells (if sd then ae++Th.texts l else ae))/\¬B c/\∀(k:Nat)(p:Th.Ex),parts[k]?=some p->∃dL eX,Th.In n p dL eX/\(if sd then ae++Th.texts l else ae).length+(eX - dL)<=1000000):=eu (λsd q hq=>by
  subst hq;cases sd
  .refine⟨A,HA.o.gb eK.o (λj hj=>by cases hj;exact HI.o.2.2.2),HI.o.2.2.2,λk p hp=>?_⟩;obtain⟨dL,eX,h8,h9⟩:=zgh HI.o.1 k p hp;have:=HL.o.2;exact⟨dL,eX,h8,by show ae.length+(eX - dL)<=1000000;omega⟩
  .refine⟨_,HK.o,rF,λk p hp=>?_⟩;obtain⟨dL,eX,h8,h9⟩:=zgh HI.o.1 k p hp;have:=HL.o.2;exact⟨dL,eX,h8,by show(ae++Th.texts l).length+(eX - dL)<=1000000;simp[Th.texts];omega⟩)
 have fD:Hid (sn=l.length):=eu (by
  rcases H5.o.1.2 with⟨h,h0⟩|⟨_,_,_,h0,_⟩
  .cases h;exact h0.symm
  .cases h0;rfl)
 cases r
 .obtain⟨B,cU,jh,ia⟩:=gD.o false (.slice aa an ac) rfl;have HB:=eu (kK cU (kK jh ia));clear cU jh ia;go_wp2_with fail;have aK:=fD.o;subst aK
  go_loopg [24] l.length (λgk i wr=>∃k:Nat,i=.int .i64 k/\k<=l.length/\l.length-k<=gk/\Mo wr c (after o (Th.Nc (Th.JL n) (if false then ae++Th.texts l else ae) [] (l.take k) (parts.take k)))/\w2.grownBy wr (some c))
  case atStart=>exact⟨0,rfl,Kc _,by omega,by rw[Rp,Rp,show Th.Nc (Th.JL n) (if false then ae++Th.texts l else ae) [] [] []=[]from rfl,RG];exact ua.o,QT _ _⟩
  case round=>
   obtain⟨k,rfl,hk,jm,fV,hg⟩:=hrel;have jQ:=eu fV;have Hg:=eu hg;have cT:=hg.size;by_cases aj:k<l.length
   .obtain⟨g,jw⟩:∃g,sa=some ⟨g,0,none⟩:=by
     rcases eM with h|⟨g,cap,h⟩
     .have:=(nD h).2.1;omega
     .exact⟨g,(nD h).1⟩
    subst jw;have ib:=ze.o;obtain⟨g2,tf⟩:∃g2,ta=some ⟨g2,0,none⟩/\tn=l.length:=by
     rcases Mq (lP ib)with h|⟨g2,cap,h⟩
     .rcases ib.2 with⟨_,h0⟩|⟨_,_,_,h0,_⟩
      .rw[show(Th.texts l).length=l.length by simp[Th.texts]]at h0;omega
      .rw[h]at h0;cases h0
     .cases h;exact⟨g2,rfl,by simp[Th.texts]⟩
    obtain⟨rfl,rfl⟩:=tf;obtain⟨t,ht⟩:∃t,l[k]?=some t:=⟨l[k],Iv aj⟩;obtain⟨p,hp⟩:∃p,parts[k]?=some p:=⟨_,Iv (by rw[H3.o];exact aj)⟩;obtain⟨pv,eD⟩:∃pv,pvs[k]?=some pv:=⟨_,Iv (by rw[H4.o];exact aj)⟩;have aR:=((H6.o k pv p eD hp).gb (qN eK.o hg) (λj hj=>by cases hj;exact HI.o.2.2.1));obtain⟨pt,px,rfl⟩:=JQ aR;have aE:=Tj l pvs k t _ ht eD;have af:=(H5.o.gb (qN eK.o hg) (λj hj=>by cases hj;exact HI.o.2.2.1)).1;have c0:=(af.cellAt (k*3) (by omega)).trans aE.1;have c1:=(af.cellAt (k*3+1) (by omega)).trans aE.2.1;have c2:=(af.cellAt (k*3+2) (by omega)).trans aE.2.2;have fX:=(af.lt g rfl).2;have Ht:=eu (PH ht);have Hp:=eu (PH hp);have dF:(0:Int)<=(k:Int):=R6 _;have xt:c<w2.heap.size:=by omega
    have kL:wr.ownsRow w.heap.size 9 1 (.slice (some ⟨g2,0,none⟩) l.length tc) l.length (strCells (Th.texts l)):=by have:=ib.kept hg (Qa ib aN);simpa[Th.texts]using this
    have kT:l.length<=tc:=by
     rcases kL.2 with⟨h0,_⟩|⟨_,_,_,h0,_,_,hn,_⟩
     .cases h0
     .cases h0;exact hn
    have cK:(k:Int)<=(tc:Int):=by omega
    have gl:=Xl kL (i:=k) (by omega);rw[zeo]at gl;have oE:Hid (wr.ownsRow w.heap.size 9 1 (.slice (some ⟨g2,0,none⟩) k tc) (Th.texts (l.take k)).length (strCells (Th.texts (l.take k)))):=eu (by rw[show(Th.texts (l.take k)).length=k by simp[Th.texts];omega];exact gl)
    have dn:=eu (λ(W:World)(hW:Mo W c (after o (Th.Nc (Th.JL n) (if false then ae++Th.texts l else ae) [] (l.take k) (parts.take k))))(hR:W.ownsRow w.heap.size 9 1 (.slice (some ⟨g2,0,none⟩) k tc) (Th.texts (l.take k)).length (strCells (Th.texts (l.take k))))=>YB hW ⟨t.s.toArray⟩ t.at_ hR (by simp[Th.texts];omega));have Hd:Hid (Th.Nc (Th.JL n) (if false then ae++Th.texts l else ae) [] (l.take (k+1)) (parts.take (k+1))=Th.Nc (Th.JL n) (if false then ae++Th.texts l else ae) [] (l.take k) (parts.take k)++((if(Th.texts (l.take k)).contains t.s then[t.at_]else[])++Th.JL n p (if false then ae++Th.texts l else ae))):=eu (by rw[Ht.o,Hp.o,zgG _ _ _ _ _ _ _ (by have:=H3.o;simp;omega)];simp)
    have dT:=eu aR;have HP:=eu hp;have pV:Hid (c≠wr.heap.size):=eu (by omega);clear fV hg ht hp eD aE af ib kL gl aR e0 e1 e2 eM fD gD;go_wp2_with fail
    go_region_with (go_at_call 69;refine(dn.o _ ?_ ?_).mono ?_;exact IC (mr jQ.o _);exact(oE.o.alloc _).drew;rintro e w3⟨rfl,h3,aS⟩;have vp:=eu h3;have gC:=eu aS;have p2:w3.cell? ⟨wr.heap.size,2,none⟩=some (.iface pt px):=al (IN (IC (gH wr [.string ⟨t.s.toArray⟩,.int .i64 t.at_,.iface pt px] 312)) aS (by intro h;injection h with h;exact pV.o h.symm)) 2;clear h3 aS)
    all_goals
     have gZ:=eu (qN (qN (qN Hg.o (IS _ _ _)) (Po _ _)) gC.o);obtain⟨dL,eX,IU,dq⟩:=HB.o.2.2 k p HP.o;have hU:=eu (HX.o w3 c _ _ p _ _ S B m dL eX vp.o (dT.o.gb (qN (qN (IS _ _ _) (Po _ _)) gC.o) (λj hj=>by cases hj;exact HI.o.2.2.1)) IU (HB.o.1.gb gZ.o (λj hj=>by cases hj;exact HB.o.2.1)) HI.o.2.2.1 HB.o.2.1 dq);clear IU dq;go_wp2_with fail;refine hU.o.mono ?_;rintro en w5⟨rfl,jD,cH⟩;have jy:=eu (kK jD cH);clear jD cH p2;go_wp2
     go_roundg (l.length-(k+1))
     case measure=>omega
     case rel=>refine⟨k+1,by go_num,by omega,qP _,?_,qN gZ.o jy.o.2⟩;rw[Hd.o,Qh,Qh];exact jy.o.1
   .have aG:k=l.length:=by omega
    have Hk:=eu aG;have rB:=fU.o.grown hg (by intro h;injection h with h;omega);have e3:=al rB 2;simp at e3;clear fV hg aG e0 e1 e2 rB gD;have gZ:=eu (qN eK.o Hg.o);have hU:=eu (HX.o wr c _ _ b _ _ S _ m dm hi jQ.o (H7.o.gb gZ.o (λj hj=>by cases hj;exact HI.o.2.2.1)) HI.o.2.1 (HK.o.gb Hg.o (λj hj=>by cases hj;exact rF)) HI.o.2.2.1 rF HL.o.1);go_wp2_with fail;refine hU.o.mono ?_;rintro en w5⟨rfl,jD,cH⟩;have jy:=eu (kK jD cH);clear jD cH;go_wp2;go_end0
    refine⟨rfl,?_,qN gZ.o jy.o.2⟩;have ho:=jy.o.1;rw[Hk.o,N8 (qP _),N8 (Jw H3.o)]at ho;rw[Qh];exact ho
 .obtain⟨B,cU,jh,ia⟩:=gD.o true (.slice ka kn kc) rfl;have HB:=eu (kK cU (kK jh ia));clear cU jh ia;go_wp2_with fail;have aK:=fD.o;subst aK
  go_loopg [24] l.length (λgk i wr=>∃k:Nat,i=.int .i64 k/\k<=l.length/\l.length-k<=gk/\Mo wr c (after o (Th.Nc (Th.JL n) (if true then ae++Th.texts l else ae) [] (l.take k) (parts.take k)))/\w2.grownBy wr (some c))
  case atStart=>exact⟨0,rfl,Kc _,by omega,by rw[Rp,Rp,show Th.Nc (Th.JL n) (if true then ae++Th.texts l else ae) [] [] []=[]from rfl,RG];exact ua.o,QT _ _⟩
  case round=>
   obtain⟨k,rfl,hk,jm,fV,hg⟩:=hrel;have jQ:=eu fV;have Hg:=eu hg;have cT:=hg.size;by_cases aj:k<l.length
   .obtain⟨g,jw⟩:∃g,sa=some ⟨g,0,none⟩:=by
     rcases eM with h|⟨g,cap,h⟩
     .have:=(nD h).2.1;omega
     .exact⟨g,(nD h).1⟩
    subst jw;have ib:=ze.o;obtain⟨g2,tf⟩:∃g2,ta=some ⟨g2,0,none⟩/\tn=l.length:=by
     rcases Mq (lP ib)with h|⟨g2,cap,h⟩
     .rcases ib.2 with⟨_,h0⟩|⟨_,_,_,h0,_⟩
      .rw[show(Th.texts l).length=l.length by simp[Th.texts]]at h0;omega
      .rw[h]at h0;cases h0
     .cases h;exact⟨g2,rfl,by simp[Th.texts]⟩
    obtain⟨rfl,rfl⟩:=tf;obtain⟨t,ht⟩:∃t,l[k]?=some t:=⟨l[k],Iv aj⟩;obtain⟨p,hp⟩:∃p,parts[k]?=some p:=⟨_,Iv (by rw[H3.o];exact aj)⟩;obtain⟨pv,eD⟩:∃pv,pvs[k]?=some pv:=⟨_,Iv (by rw[H4.o];exact aj)⟩;have aR:=((H6.o k pv p eD hp).gb (qN eK.o hg) (λj hj=>by cases hj;exact HI.o.2.2.1));obtain⟨pt,px,rfl⟩:=JQ aR;have aE:=Tj l pvs k t _ ht eD;have af:=(H5.o.gb (qN eK.o hg) (λj hj=>by cases hj;exact HI.o.2.2.1)).1;have c0:=(af.cellAt (k*3) (by omega)).trans aE.1;have c1:=(af.cellAt (k*3+1) (by omega)).trans aE.2.1;have c2:=(af.cellAt (k*3+2) (by omega)).trans aE.2.2;have fX:=(af.lt g rfl).2;have Ht:=eu (PH ht);have Hp:=eu (PH hp);have dF:(0:Int)<=(k:Int):=R6 _;have xt:c<w2.heap.size:=by omega
    have kL:wr.ownsRow w.heap.size 9 1 (.slice (some ⟨g2,0,none⟩) l.length tc) l.length (strCells (Th.texts l)):=by have:=ib.kept hg (Qa ib aN);simpa[Th.texts]using this
    have kT:l.length<=tc:=by
     rcases kL.2 with⟨h0,_⟩|⟨_,_,_,h0,_,_,hn,_⟩
     .cases h0
     .cases h0;exact hn
    have cK:(k:Int)<=(tc:Int):=by omega
    have gl:=Xl kL (i:=k) (by omega);rw[zeo]at gl;have oE:Hid (wr.ownsRow w.heap.size 9 1 (.slice (some ⟨g2,0,none⟩) k tc) (Th.texts (l.take k)).length (strCells (Th.texts (l.take k)))):=eu (by rw[show(Th.texts (l.take k)).length=k by simp[Th.texts];omega];exact gl)
    have dn:=eu (λ(W:World)(hW:Mo W c (after o (Th.Nc (Th.JL n) (if true then ae++Th.texts l else ae) [] (l.take k) (parts.take k))))(hR:W.ownsRow w.heap.size 9 1 (.slice (some ⟨g2,0,none⟩) k tc) (Th.texts (l.take k)).length (strCells (Th.texts (l.take k))))=>YB hW ⟨t.s.toArray⟩ t.at_ hR (by simp[Th.texts];omega));have Hd:Hid (Th.Nc (Th.JL n) (if true then ae++Th.texts l else ae) [] (l.take (k+1)) (parts.take (k+1))=Th.Nc (Th.JL n) (if true then ae++Th.texts l else ae) [] (l.take k) (parts.take k)++((if(Th.texts (l.take k)).contains t.s then[t.at_]else[])++Th.JL n p (if true then ae++Th.texts l else ae))):=eu (by rw[Ht.o,Hp.o,zgG _ _ _ _ _ _ _ (by have:=H3.o;simp;omega)];simp)
    have dT:=eu aR;have HP:=eu hp;have pV:Hid (c≠wr.heap.size):=eu (by omega);clear fV hg ht hp eD aE af ib kL gl aR e0 e1 e2 eM fD gD;go_wp2_with fail
    go_region_with (go_at_call 69;refine(dn.o _ ?_ ?_).mono ?_;exact IC (mr jQ.o _);exact(oE.o.alloc _).drew;rintro e w3⟨rfl,h3,aS⟩;have vp:=eu h3;have gC:=eu aS;have p2:w3.cell? ⟨wr.heap.size,2,none⟩=some (.iface pt px):=al (IN (IC (gH wr [.string ⟨t.s.toArray⟩,.int .i64 t.at_,.iface pt px] 312)) aS (by intro h;injection h with h;exact pV.o h.symm)) 2;clear h3 aS)
    all_goals
     have gZ:=eu (qN (qN (qN Hg.o (IS _ _ _)) (Po _ _)) gC.o);obtain⟨dL,eX,IU,dq⟩:=HB.o.2.2 k p HP.o;have hU:=eu (HX.o w3 c _ _ p _ _ S B m dL eX vp.o (dT.o.gb (qN (qN (IS _ _ _) (Po _ _)) gC.o) (λj hj=>by cases hj;exact HI.o.2.2.1)) IU (HB.o.1.gb gZ.o (λj hj=>by cases hj;exact HB.o.2.1)) HI.o.2.2.1 HB.o.2.1 dq);clear IU dq;go_wp2_with fail;refine hU.o.mono ?_;rintro en w5⟨rfl,jD,cH⟩;have jy:=eu (kK jD cH);clear jD cH p2;go_wp2
     go_roundg (l.length-(k+1))
     case measure=>omega
     case rel=>refine⟨k+1,by go_num,by omega,qP _,?_,qN gZ.o jy.o.2⟩;rw[Hd.o,Qh,Qh];exact jy.o.1
   .have aG:k=l.length:=by omega
    have Hk:=eu aG;have rB:=fU.o.grown hg (by intro h;injection h with h;omega);have e3:=al rB 2;simp at e3;clear fV hg aG e0 e1 e2 rB gD;have gZ:=eu (qN eK.o Hg.o);have hU:=eu (HX.o wr c _ _ b _ _ S _ m dm hi jQ.o (H7.o.gb gZ.o (λj hj=>by cases hj;exact HI.o.2.2.1)) HI.o.2.1 (HK.o.gb Hg.o (λj hj=>by cases hj;exact rF)) HI.o.2.2.1 rF HL.o.1);go_wp2_with fail;refine hU.o.mono ?_;rintro en w5⟨rfl,jD,cH⟩;have jy:=eu (kK jD cH);clear jD cH;go_wp2;go_end0
    refine⟨rfl,?_,qN gZ.o jy.o.2⟩;have ho:=jy.o.1;rw[Hk.o,N8 (qP _),N8 (Jw H3.o)]at ho;rw[Qh];exact ho
end
section
open Go.RowKit
variable {n:Nat}{e:Th.Ex}
theorem Y9(h:e.kind=1\/e.kind=3)(ar:List (List UInt8)):Th.JL (n+1) e ar=[]:=by rcases h with h|h<;>simp[Th.JL,h]
theorem zuX(h:e.kind=2)(ar:List (List UInt8)):Th.JL (n+1) e ar=if ar.contains e.tok.s then[]else[e.tok.at_]:=by simp[Th.JL,h]
variable {e1 e2:Th.Ex}
theorem Za(h:e.kind=5\/e.kind=6)(hk:e.kids=[e1,e2])(ar:List (List UInt8)):Th.JL (n+1) e ar=Th.JL n e1 ar++Th.JL n e2 ar:=by rcases h with h|h<;>simp[Th.JL,h,hk]
variable {b:Th.Ex}
theorem zuV(h:e.kind=4)(hk:e.kids=[b])(ar:List (List UInt8)):Th.JL (n+1) e ar=Th.N0 [] e.names++Th.JL n b (ar++Th.texts e.names):=by simp[Th.JL,h,hk]
theorem zuW{ps:List Th.Ex}(h:e.kind=7\/e.kind=8)(hk:e.kids=b::ps)(ar:List (List UInt8)):Th.JL (n+1) e ar=Th.Nc (Th.JL n) (if(e.kind == 8)then ar++Th.texts e.names else ar) [] e.names ps++Th.JL n b (ar++Th.texts e.names):=by rcases h with h|h<;>simp[Th.JL,h,hk]
theorem zqa{ps:List Th.Ex}(h:e.kind=9)(hk:e.kids=b::ps)(ar:List (List UInt8)):Th.JL (n+1) e ar=Th.JL n b ar++Th.Oi (Th.JL n) ar e.nA ps:=by simp[Th.JL,h,hk]
theorem zmS(x:Value)(w:World):(Instr.typeAssert (.iface 217 x) 91 215 true).run prog w=.ok (.tuple #[.agg #[.string ⟨#[]⟩,.int .i64 0],.bool false]) w:=by kernel_rfl
theorem zkO(x:Value)(w:World):(Instr.typeAssert (.iface 217 x) 91 163 true).run prog w=.ok (.tuple #[.agg #[.nilIface,.nilIface],.bool false]) w:=by kernel_rfl
theorem zgw(x:Value)(w:World):(Instr.typeAssert (.iface 217 x) 91 166 true).run prog w=.ok (.tuple #[.agg #[.string ⟨#[]⟩,.nilIface,.nilIface],.bool false]) w:=by kernel_rfl
theorem zmR(x:Value)(w:World):(Instr.typeAssert (.iface 217 x) 91 178 true).run prog w=.ok (.tuple #[.agg #[.bool false,.slice none 0 0,.nilIface],.bool false]) w:=by kernel_rfl
theorem zkP(x:Value)(w:World):(Instr.typeAssert (.iface 217 x) 91 173 true).run prog w=.ok (.tuple #[.agg #[.nilIface,.slice none 0 0],.bool false]) w:=by kernel_rfl
theorem ziz(x:Value)(w:World):(Instr.typeAssert (.iface 217 x) 91 226 true).run prog w=.ok (.tuple #[.agg #[.slice none 0 0,.nilIface],.bool false]) w:=by kernel_rfl
theorem zou(x:Value)(w:World):(Instr.typeAssert (.iface 219 x) 91 215 true).run prog w=.ok (.tuple #[.agg #[.string ⟨#[]⟩,.int .i64 0],.bool false]) w:=by kernel_rfl
theorem zmP(x:Value)(w:World):(Instr.typeAssert (.iface 219 x) 91 163 true).run prog w=.ok (.tuple #[.agg #[.nilIface,.nilIface],.bool false]) w:=by kernel_rfl
theorem zhe(x:Value)(w:World):(Instr.typeAssert (.iface 219 x) 91 166 true).run prog w=.ok (.tuple #[.agg #[.string ⟨#[]⟩,.nilIface,.nilIface],.bool false]) w:=by kernel_rfl
theorem zot(x:Value)(w:World):(Instr.typeAssert (.iface 219 x) 91 178 true).run prog w=.ok (.tuple #[.agg #[.bool false,.slice none 0 0,.nilIface],.bool false]) w:=by kernel_rfl
theorem zmQ(x:Value)(w:World):(Instr.typeAssert (.iface 219 x) 91 173 true).run prog w=.ok (.tuple #[.agg #[.nilIface,.slice none 0 0],.bool false]) w:=by kernel_rfl
theorem zj0(x:Value)(w:World):(Instr.typeAssert (.iface 219 x) 91 226 true).run prog w=.ok (.tuple #[.agg #[.slice none 0 0,.nilIface],.bool false]) w:=by kernel_rfl
theorem zr9(x:Value)(w:World):(Instr.typeAssert (.iface 215 x) 91 215 true).run prog w=.ok (.tuple #[x,.bool true]) w:=by kernel_rfl
theorem zpY(x:Value)(w:World):(Instr.typeAssert (.iface 163 x) 91 215 true).run prog w=.ok (.tuple #[.agg #[.string ⟨#[]⟩,.int .i64 0],.bool false]) w:=by kernel_rfl
theorem zoq(x:Value)(w:World):(Instr.typeAssert (.iface 163 x) 91 163 true).run prog w=.ok (.tuple #[x,.bool true]) w:=by kernel_rfl
theorem ziA(x:Value)(w:World):(Instr.typeAssert (.iface 166 x) 91 215 true).run prog w=.ok (.tuple #[.agg #[.string ⟨#[]⟩,.int .i64 0],.bool false]) w:=by kernel_rfl
theorem zh0(x:Value)(w:World):(Instr.typeAssert (.iface 166 x) 91 163 true).run prog w=.ok (.tuple #[.agg #[.nilIface,.nilIface],.bool false]) w:=by kernel_rfl
theorem zcv(x:Value)(w:World):(Instr.typeAssert (.iface 166 x) 91 166 true).run prog w=.ok (.tuple #[x,.bool true]) w:=by kernel_rfl
theorem zr8(x:Value)(w:World):(Instr.typeAssert (.iface 178 x) 91 215 true).run prog w=.ok (.tuple #[.agg #[.string ⟨#[]⟩,.int .i64 0],.bool false]) w:=by kernel_rfl
theorem zp1(x:Value)(w:World):(Instr.typeAssert (.iface 178 x) 91 163 true).run prog w=.ok (.tuple #[.agg #[.nilIface,.nilIface],.bool false]) w:=by kernel_rfl
theorem ziy(x:Value)(w:World):(Instr.typeAssert (.iface 178 x) 91 166 true).run prog w=.ok (.tuple #[.agg #[.string ⟨#[]⟩,.nilIface,.nilIface],.bool false]) w:=by kernel_rfl
theorem zr7(x:Value)(w:World):(Instr.typeAssert (.iface 178 x) 91 178 true).run prog w=.ok (.tuple #[x,.bool true]) w:=by kernel_rfl
theorem zp0(x:Value)(w:World):(Instr.typeAssert (.iface 173 x) 91 215 true).run prog w=.ok (.tuple #[.agg #[.string ⟨#[]⟩,.int .i64 0],.bool false]) w:=by kernel_rfl
theorem zor(x:Value)(w:World):(Instr.typeAssert (.iface 173 x) 91 163 true).run prog w=.ok (.tuple #[.agg #[.nilIface,.nilIface],.bool false]) w:=by kernel_rfl
theorem zhZ(x:Value)(w:World):(Instr.typeAssert (.iface 173 x) 91 166 true).run prog w=.ok (.tuple #[.agg #[.string ⟨#[]⟩,.nilIface,.nilIface],.bool false]) w:=by kernel_rfl
theorem zpZ(x:Value)(w:World):(Instr.typeAssert (.iface 173 x) 91 178 true).run prog w=.ok (.tuple #[.agg #[.bool false,.slice none 0 0,.nilIface],.bool false]) w:=by kernel_rfl
theorem zos(x:Value)(w:World):(Instr.typeAssert (.iface 173 x) 91 173 true).run prog w=.ok (.tuple #[x,.bool true]) w:=by kernel_rfl
theorem zmO(x:Value)(w:World):(Instr.typeAssert (.iface 226 x) 91 215 true).run prog w=.ok (.tuple #[.agg #[.string ⟨#[]⟩,.int .i64 0],.bool false]) w:=by kernel_rfl
theorem zkM(x:Value)(w:World):(Instr.typeAssert (.iface 226 x) 91 163 true).run prog w=.ok (.tuple #[.agg #[.nilIface,.nilIface],.bool false]) w:=by kernel_rfl
theorem zgv(x:Value)(w:World):(Instr.typeAssert (.iface 226 x) 91 166 true).run prog w=.ok (.tuple #[.agg #[.string ⟨#[]⟩,.nilIface,.nilIface],.bool false]) w:=by kernel_rfl
theorem zmN(x:Value)(w:World):(Instr.typeAssert (.iface 226 x) 91 178 true).run prog w=.ok (.tuple #[.agg #[.bool false,.slice none 0 0,.nilIface],.bool false]) w:=by kernel_rfl
theorem zkN(x:Value)(w:World):(Instr.typeAssert (.iface 226 x) 91 173 true).run prog w=.ok (.tuple #[.agg #[.nilIface,.slice none 0 0],.bool false]) w:=by kernel_rfl
theorem zix(x:Value)(w:World):(Instr.typeAssert (.iface 226 x) 91 226 true).run prog w=.ok (.tuple #[x,.bool true]) w:=by kernel_rfl
variable {w:World}{c:Nat}{o:Option Nat}{av:Value}{ae:List (List UInt8)}{A:Nat->Prop}{v:Value}
theorem znO(hc:Mo w c o)(ha:Row A w 9 1 av ae.length (strCells ae))(hv:(∃n:Int,v=.iface 217 (.agg #[.int .i64 n]))\/∃a b:Int,v=.iface 219 (.agg #[.int .i64 a,.int .i64 b])):
  Calls prog 71 #[.pointer (some ⟨c,0,none⟩),v,av] w λen w'=>en=.returned (.tuple #[])/\Mo w' c o/\w.grownBy w' (some c):=by
 obtain⟨aa,an,ac,rfl⟩:=Jk ha;have HC:=eu hc;clear hc ha;rcases hv with⟨n,rfl⟩|⟨a,b,rfl⟩
 .have h1:=zmS;have h2:=zkO;have h3:=zgw;have h4:=zmR;have h5:=zkP;have h6:=ziz;go_enter func71,ntmps71;go_wp2;go_end0
  exact⟨rfl,HC.o,QT _ _⟩
 .have h1:=zou;have h2:=zmP;have h3:=zhe;have h4:=zot;have h5:=zmQ;have h6:=zj0;go_enter func71,ntmps71;go_wp2;go_end0
  exact⟨rfl,HC.o,QT _ _⟩
theorem zvu(hc:Mo w c o)(ha:Row A w 9 1 av ae.length (strCells ae))(hl:ae.length<=1000000)(s:ByteArray)(p:Nat):
  Calls prog 71 #[.pointer (some ⟨c,0,none⟩),.iface 215 (.agg #[.string s,.int .i64 p]),av] w λen w'=>en=.returned (.tuple #[])/\Mo w' c (after o (if ae.contains s.data.toList then[]else[p]))/\w.grownBy w' (some c):=by
 obtain⟨aa,an,ac,rfl⟩:=Jk ha;have HC:=eu hc;have HA:=eu ha;clear hc ha;have h1:=zr9;cases iG:ae.contains s.data.toList
 .have vw:=eu iG;clear iG;go_enter func71,ntmps71;go_wp2_with fail;refine(WM (HA.o.1.alloc _) hl s).mono ?_;rintro e w1⟨rfl,rfl⟩;rw[vw.o];go_wp2_with fail;refine(znt (mr HC.o _) s p).mono ?_;rintro e w2⟨rfl,h2,aF⟩;have H2:=eu (kK h2 (qN (IS _ _ _) aF));clear h2 aF;go_wp2;go_end0
  exact⟨rfl,H2.o.1,H2.o.2⟩
 .have vw:=eu iG;clear iG;go_enter func71,ntmps71;go_wp2_with fail;refine(WM (HA.o.1.alloc _) hl s).mono ?_;rintro e w1⟨rfl,rfl⟩;rw[vw.o];go_wp2;go_end0
  refine⟨rfl,?_,IS _ _ _⟩;rw[RG];exact mr HC.o _
variable {S:Nat->Prop}{m lo dm hi:Nat}
theorem zsY(hx:TD n){v1 v2:Value}(hc:Mo w c o)(dd:qU S w m v1 e1)(cg:qU S w m v2 e2)(h1:Th.In n e1 lo dm)(h2:Th.In n e2 dm hi)(ha:Row A w 9 1 av ae.length (strCells ae))(hS:¬S c)(hA:¬A c)(hb:ae.length+(hi-lo)<=1000000):
  Calls prog 71 #[.pointer (some ⟨c,0,none⟩),.iface 163 (.agg #[ v1,v2]),av] w λen w'=>en=.returned (.tuple #[])/\Mo w' c (after o (Th.JL n e1 ae++Th.JL n e2 ae))/\w.grownBy w' (some c):=by
 obtain⟨aa,an,ac,rfl⟩:=Jk ha;obtain⟨t1,x1,rfl⟩:=JQ dd;obtain⟨t2,x2,rfl⟩:=JQ cg;have aL:=h1.le;have aC:=h2.le;have aN:=hc.lt;have g1:=zpY;have g2:=zoq;have g3:=zcv;have dE:=IS w (.cells #[ .iface t1 x1,.iface t2 x2] 163) (some c);have hE:=gH w [ .iface t1 x1,.iface t2 x2] 163;have fE:=eu (hx _ c o _ e1 _ ae S A m lo dm (hc.gb (IS w (.cells #[ .iface t1 x1,.iface t2 x2] 163) none) (by simp)) (dd.gb dE (λj hj=>by cases hj;exact hS)) h1 (ha.gb dE (λj hj=>by cases hj;exact hA)) hS hA (by omega));have eP:=eu (λ(W:World)(o':Option Nat)(hW:Mo W c o')(hg:w.grownBy W (some c))=>hx W c o' _ e2 _ ae S A m dm hi hW (cg.gb hg (λj hj=>by cases hj;exact hS)) h2 (ha.gb hg (λj hj=>by cases hj;exact hA)) hS hA (by omega));have eQ:=eu dE;have HE:=eu hE;clear hc dd cg h1 h2 ha hS hA hx aL aC hb dE hE;go_enter func71,ntmps71;go_wp2_with fail;refine fE.o.mono ?_;rintro en w1⟨rfl,bH,bw⟩;have oJ:=al (IN HE.o bw (by intro h;injection h with h;omega)) 1;simp at oJ;have jN:=eu (eP.o w1 _ bH (qN eQ.o bw));have gY:=eu (qN eQ.o bw);clear bH bw fE eP;go_wp2_with fail;refine jN.o.mono ?_;rintro en w2⟨rfl,bT,aF⟩;have H2:=eu (kK bT aF);clear bT aF;go_wp2;go_end0
 exact⟨rfl,by rw[Qh];exact H2.o.1,qN gY.o H2.o.2⟩
theorem zxl(hx:TD n){v1 v2:Value}(s:ByteArray)(hc:Mo w c o)(dd:qU S w m v1 e1)(cg:qU S w m v2 e2)(h1:Th.In n e1 lo dm)(h2:Th.In n e2 dm hi)(ha:Row A w 9 1 av ae.length (strCells ae))(hS:¬S c)(hA:¬A c)(hb:ae.length+(hi-lo)<=1000000):
  Calls prog 71 #[.pointer (some ⟨c,0,none⟩),.iface 166 (.agg #[.string s ,v1,v2]),av] w λen w'=>en=.returned (.tuple #[])/\Mo w' c (after o (Th.JL n e1 ae++Th.JL n e2 ae))/\w.grownBy w' (some c):=by
 obtain⟨aa,an,ac,rfl⟩:=Jk ha;obtain⟨t1,x1,rfl⟩:=JQ dd;obtain⟨t2,x2,rfl⟩:=JQ cg;have aL:=h1.le;have aC:=h2.le;have aN:=hc.lt;have g1:=ziA;have g2:=zh0;have g3:=zcv;have dE:=IS w (.cells #[.string s ,.iface t1 x1,.iface t2 x2] 166) (some c);have hE:=gH w [.string s ,.iface t1 x1,.iface t2 x2] 166;have fE:=eu (hx _ c o _ e1 _ ae S A m lo dm (hc.gb (IS w (.cells #[.string s ,.iface t1 x1,.iface t2 x2] 166) none) (by simp)) (dd.gb dE (λj hj=>by cases hj;exact hS)) h1 (ha.gb dE (λj hj=>by cases hj;exact hA)) hS hA (by omega));have eP:=eu (λ(W:World)(o':Option Nat)(hW:Mo W c o')(hg:w.grownBy W (some c))=>hx W c o' _ e2 _ ae S A m dm hi hW (cg.gb hg (λj hj=>by cases hj;exact hS)) h2 (ha.gb hg (λj hj=>by cases hj;exact hA)) hS hA (by omega));have eQ:=eu dE;have HE:=eu hE;clear hc dd cg h1 h2 ha hS hA hx aL aC hb dE hE;go_enter func71,ntmps71;go_wp2_with fail;refine fE.o.mono ?_;rintro en w1⟨rfl,bH,bw⟩;have oJ:=al (IN HE.o bw (by intro h;injection h with h;omega)) 2;simp at oJ;have jN:=eu (eP.o w1 _ bH (qN eQ.o bw));have gY:=eu (qN eQ.o bw);clear bH bw fE eP;go_wp2_with fail;refine jN.o.mono ?_;rintro en w2⟨rfl,bT,aF⟩;have H2:=eu (kK bT aF);clear bT aF;go_wp2;go_end0
 exact⟨rfl,by rw[Qh];exact H2.o.1,qN gY.o H2.o.2⟩
end
section
open Go.RowKit
attribute [local go_sem ↓] Go.wp_at_zero Go.wp_at_succ
variable {n:Nat}{w:World}{c:Nat}{o:Option Nat}{v av:Value}{l:List Th.Tok}{e:Th.Ex}{ae:List (List UInt8)}{S A:Nat->Prop}{m lo dm hi:Nat}
theorem zvs(hx:TD n){nv:Value}(hc:Mo w c o)(hn:Row S w 88 2 nv l.length (Ms l))(hr:qU S w m v e)(h1:Th.Me lo dm l)(h2:Th.In n e dm hi)(ha:Row A w 9 1 av ae.length (strCells ae))(hS:¬S c)(hA:¬A c)(hb:ae.length+(hi-lo)<=1000000):
  Calls prog 71 #[.pointer (some ⟨c,0,none⟩),.iface 226 (.agg #[nv,v]),av] w λen w'=>en=.returned (.tuple #[])/\Mo w' c (after o (Th.N0 [] l++Th.JL n e (ae++Th.texts l)))/\w.grownBy w' (some c):=by
 obtain⟨aa,an,ac,rfl⟩:=Jk ha;obtain⟨na,nn,nc,rfl⟩:=Jk hn;obtain⟨t,x,rfl⟩:=JQ hr;have g1:=zmO;have g2:=zkM;have g3:=zgv;have g4:=zmN;have g5:=zkN;have g6:=zix;have dE:=IS w (.cells #[.slice na nn nc,.iface t x] 226) (some c);have dn:=eu (zlw hx (hc.gb (IS w (.cells #[.slice na nn nc,.iface t x] 226) none) (by simp)) (hn.gb dE (λj hj=>by cases hj;exact hS)) (hr.gb dE (λj hj=>by cases hj;exact hS)) h1 h2 (ha.gb dE (λj hj=>by cases hj;exact hA)) hS hA hb);have eQ:=eu dE;clear hc hn hr h1 h2 ha hS hA hx hb dE;go_enter func71,ntmps71;go_wp2_with fail;refine dn.o.mono ?_;rintro en w2⟨rfl,bT,aF⟩;have H2:=eu (kK bT aF);clear bT aF;go_wp2;go_end0
 exact⟨rfl,H2.o.1,qN eQ.o H2.o.2⟩
variable {sv:Value}{b:Th.Ex}
theorem zvt(hx:TD n){r:Bool}{bv:Value}{parts:List Th.Ex}{pvs:List Value}(hc:Mo w c o)(h3:parts.length=l.length)(h4:pvs.length=l.length)(h5:Row S w 312 3 sv l.length (Ob l pvs))(h6:∀(i:Nat)(pv:Value)(p:Th.Ex),pvs[i]?=some pv->parts[i]?=some p->qU S w m pv p)(h7:qU S w m bv b)(h1:Th.Oc (Th.In n) lo dm l parts)(h2:Th.In n b dm hi)(ha:Row A w 9 1 av ae.length (strCells ae))(hS:¬S c)(hA:¬A c)(hb:ae.length+(hi-lo)<=1000000):
  Calls prog 71 #[.pointer (some ⟨c,0,none⟩),.iface 178 (.agg #[.bool r,sv,bv]),av] w λen w'=>en=.returned (.tuple #[])/\Mo w' c (after o (Th.Nc (Th.JL n) (if r then ae++Th.texts l else ae) [] l parts++Th.JL n b (ae++Th.texts l)))/\w.grownBy w' (some c):=by
 obtain⟨aa,an,ac,rfl⟩:=Jk ha;obtain⟨na,nn,nc,rfl⟩:=Jk h5;obtain⟨t,x,rfl⟩:=JQ h7;have g1:=zr8;have g2:=zp1;have g3:=ziy;have g4:=zr7;have dE:=IS w (.cells #[.bool r,.slice na nn nc,.iface t x] 178) (some c);have dn:=eu (zxw (r:=r) hx (hc.gb (IS w (.cells #[.bool r,.slice na nn nc,.iface t x] 178) none) (by simp)) h3 h4 (h5.gb dE (λj hj=>by cases hj;exact hS)) (λi pv p hp hq=>(h6 i pv p hp hq).gb dE (λj hj=>by cases hj;exact hS)) (h7.gb dE (λj hj=>by cases hj;exact hS)) h1 h2 (ha.gb dE (λj hj=>by cases hj;exact hA)) hS hA hb);have eQ:=eu dE;clear hc h3 h4 h5 h6 h7 h1 h2 ha hS hA hx hb dE;generalize(Th.Nc (Th.JL n) (if r then ae++Th.texts l else ae) [] l parts++Th.JL n b (ae++Th.texts l))=L at dn|-;go_enter func71,ntmps71;go_wp2_with fail;refine dn.o.mono ?_;rintro en w2⟨rfl,bT,aF⟩;have H2:=eu (kK bT aF);clear bT aF;go_wp2;go_end0
 exact⟨rfl,H2.o.1,qN eQ.o H2.o.2⟩
theorem zlY(wr:Th.Ex->List (List UInt8)->List Nat)(ar:List (List UInt8)):∀(l:List (Nat × List Th.Tok))(es:List Th.Ex)(a:Nat × List Th.Tok)(e:Th.Ex),l.length=es.length ->
  Th.Oi wr ar (l++[a]) (es++[e])=Th.Oi wr ar l es++(Th.N0 [] a.2++wr e (ar++Th.texts a.2))
 |[],[],a,e,_=>by simp[Th.Oi]
 |x::l,y::es,a,e,h=>by simp only[MP,Th.Oi];rw[zlY wr ar l es a e (by simpa using h)];simp
 |[],_::_,_,_,h=>by simp at h
 |_::_,[],_,_,h=>by simp at h
theorem zla{n:Nat}:∀{lo hi:Nat}{l:List (Nat × List Th.Tok)}{es:List Th.Ex},Th.OW (Th.In n) lo hi l es->∀(k:Nat)(a:Nat × List Th.Tok)(p:Th.Ex),l[k]?=some a->es[k]?=some p->∃dL m' eX,Th.Me dL m' a.2/\Th.In n p m' eX/\eX - dL<=hi-lo
 |lo,hi,[],[],_,k,a,p,ha,hp=>by simp at hp
 |lo,hi,t::r,e::es,h,0,a,p,ha,hp=>by obtain⟨m1,m2,h1,h2,h3⟩:=h;simp only[Pk,IA]at ha hp;subst ha hp;have:=Th.OW.len h3;have:=Th.In.le h2;exact⟨_,_,_,h1,h2,by omega⟩
 |lo,hi,t::r,e::es,h,k+1,a,p,ha,hp=>by obtain⟨m1,m2,h1,h2,h3⟩:=h;have:=Th.OW.len h3;have:=Th.In.le h2;have:=Th.Me.len h1;obtain⟨dL,m',eX,h4,h5,h6⟩:=zla h3 k a p (by simpa using ha) (by simpa using hp);exact⟨dL,m',eX,h4,h5,by omega⟩
 |_,_,[],_::_,h,_,_,_,_,_=>h.elim
 |_,_,_::_,[],h,_,_,_,_,_=>h.elim
variable {nvs bvs:List Value}
theorem zsZ(hx:TD n){cv:Value}{nA:List (Nat × List Th.Tok)}{ag:List Th.Ex}(hc:Mo w c o)(h3:ag.length=nA.length)(h4:nvs.length=nA.length)(h5:bvs.length=nA.length)(h6:Row S w 240 3 sv nA.length (OF nA nvs bvs))(h7:∀(i:Nat)(a:Nat × List Th.Tok)(nv:Value),nA[i]?=some a->nvs[i]?=some nv->Row S w 88 2 nv a.2.length (Ms a.2))(h8:∀(i:Nat)(bv:Value)(p:Th.Ex),bvs[i]?=some bv->ag[i]?=some p->qU S w m bv p)(h9:qU S w m cv b)(h1:Th.In n b lo dm)(h2:Th.OW (Th.In n) dm hi nA ag)(ha:Row A w 9 1 av ae.length (strCells ae))(hS:¬S c)(hA:¬A c)(hb:ae.length+(hi-lo)<=1000000):
  Calls prog 71 #[.pointer (some ⟨c,0,none⟩),.iface 173 (.agg #[cv,sv]),av] w λen w'=>en=.returned (.tuple #[])/\Mo w' c (after o (Th.JL n b ae++Th.Oi (Th.JL n) ae nA ag))/\w.grownBy w' (some c):=by
 have aL:=h1.le;have aC:=h2.len;have aU:nA.length<=1000000:=by omega
 have aN:=hc.lt;obtain⟨aa,an,ac,rfl⟩:=Jk ha;have eM:=Mq h6;obtain⟨sa,sn,sc,rfl⟩:=Jk h6;obtain⟨t,x,rfl⟩:=JQ h9;have fD:Hid (sn=nA.length):=eu (by
  rcases h6.1.2 with⟨h,h0⟩|⟨_,_,_,h0,_⟩
  .cases h;exact h0.symm
  .cases h0;rfl)
 have g1:=zp0;have g2:=zor;have g3:=zhZ;have g4:=zpZ;have g5:=zos;have dE:=IS w (.cells #[.iface t x,.slice sa sn sc] 173) (some c);have HE:=eu (gH w [.iface t x,.slice sa sn sc] 173);have fE:=eu (hx _ c o _ b _ ae S A m lo dm (hc.gb (IS w (.cells #[.iface t x,.slice sa sn sc] 173) none) (by simp)) (h9.gb dE (λj hj=>by cases hj;exact hS)) h1 (ha.gb dE (λj hj=>by cases hj;exact hA)) hS hA (by omega));have eQ:=eu dE;have H3:=eu h3;have H4:=eu h4;have H5:=eu h5;have H6:=eu h6;have H7:=eu h7;have H8:=eu h8;have HA:=eu ha;have HI:=eu (kK h2 (kK hS hA));have HL:Hid (ae.length+(hi-dm)<=1000000):=eu (by omega);have HX:=eu hx;clear hc h3 h4 h5 h6 h7 h8 h9 h1 h2 ha hS hA hx hb dE aL aC;go_enter func71,ntmps71;go_wp2_with fail;refine fE.o.mono ?_;rintro en w1⟨rfl,bH,bw⟩;have e1:=al (IN HE.o bw (by intro h;injection h with h;omega)) 1;simp at e1;have gY:=eu (qN eQ.o bw);have lR:=eu bH;have cT:=(qN eQ.o bw).size;clear bH bw fE HE eQ;go_wp2_with fail;have aK:=fD.o;subst aK
 go_loopg [72] nA.length (λgk i wr=>∃k:Nat,i=.int .i64 k/\k<=nA.length/\nA.length-k<=gk/\Mo wr c (after (after o (Th.JL n b ae)) (Th.Oi (Th.JL n) ae (nA.take k) (ag.take k)))/\w1.grownBy wr (some c))
 case atStart=>exact⟨0,rfl,Kc _,by omega,by rw[Rp,Rp,show Th.Oi (Th.JL n) ae [] []=[]from rfl,RG];exact lR.o,QT _ _⟩
 case round=>
  obtain⟨k,rfl,hk,jm,fV,hg⟩:=hrel;have jQ:=eu fV;have Hg:=eu hg;have cT:=hg.size;by_cases aj:k<nA.length
  .obtain⟨g,jw⟩:∃g,sa=some ⟨g,0,none⟩:=by
    rcases eM with h|⟨g,cap,h⟩
    .have:=(nD h).2.1;omega
    .exact⟨g,(nD h).1⟩
   subst jw;obtain⟨a,ke⟩:∃a,nA[k]?=some a:=⟨nA[k],Iv aj⟩;obtain⟨p,hp⟩:∃p,ag[k]?=some p:=⟨_,Iv (by rw[H3.o];exact aj)⟩;obtain⟨nv,ay⟩:∃nv,nvs[k]?=some nv:=⟨_,Iv (by rw[H4.o];exact aj)⟩;obtain⟨bv,cC⟩:∃bv,bvs[k]?=some bv:=⟨_,Iv (by rw[H5.o];exact aj)⟩;have fq:=qN gY.o hg;have aR:=(H8.o k bv p cC hp).gb fq (λj hj=>by cases hj;exact HI.o.2.1);have eH:=(H7.o k a nv ke ay).gb fq (λj hj=>by cases hj;exact HI.o.2.1);obtain⟨pt,px,rfl⟩:=JQ aR;obtain⟨na,nn,nc,rfl⟩:=Jk eH;have aE:=W5 nA nvs bvs k a _ _ ke ay cC;have af:=(H6.o.gb fq (λj hj=>by cases hj;exact HI.o.2.1)).1;have c0:=(af.cellAt (k*3) (by omega)).trans aE.1;have c1:=(af.cellAt (k*3+1) (by omega)).trans aE.2.1;have c2:=(af.cellAt (k*3+2) (by omega)).trans aE.2.2;have fX:=(af.lt g rfl).2;obtain⟨dL,m',eX,bJ,IU,dq⟩:=zla HI.o.1 k a p ke hp;have cH:=IS wr (.cells #[.int .i64 a.1,.slice na nn nc,.iface pt px] 240) (some c);have dn:=eu (zlw HX.o (fV.gb (IS wr (.cells #[.int .i64 a.1,.slice na nn nc,.iface pt px] 240) none) (by simp)) (eH.gb cH (λj hj=>by cases hj;exact HI.o.2.1)) (aR.gb cH (λj hj=>by cases hj;exact HI.o.2.1)) bJ IU (HA.o.gb (qN fq cH) (λj hj=>by cases hj;exact HI.o.2.2)) HI.o.2.1 HI.o.2.2 (by have:=HL.o;omega));have lS:=eu (qN hg cH);have Ht:=eu (PH ke);have Hp:=eu (PH hp);have Hd:Hid (Th.Oi (Th.JL n) ae (nA.take (k+1)) (ag.take (k+1))=Th.Oi (Th.JL n) ae (nA.take k) (ag.take k)++(Th.N0 [] a.2++Th.JL n p (ae++Th.texts a.2))):=eu (by rw[Ht.o,Hp.o,zlY _ _ _ _ _ _ (by have:=H3.o;simp;omega)])
   clear fV hg ke hp ay cC fq aR eH aE af bJ IU dq cH e1 eM fD;go_wp2_with fail;refine dn.o.mono ?_;rintro en w5⟨rfl,jD,cH⟩;have jy:=eu (kK jD cH);clear jD cH;go_wp2
   go_roundg (nA.length-(k+1))
   case measure=>omega
   case rel=>refine⟨k+1,by go_num,by omega,qP _,?_,qN lS.o jy.o.2⟩;rw[Hd.o,Qh];exact jy.o.1
  .have aG:k=nA.length:=by omega
   have Hk:=eu aG;clear fV hg aG;go_wp2;go_end0
   refine⟨rfl,?_,qN gY.o Hg.o⟩;have ho:=jQ.o;rw[Hk.o,N8 (qP _),N8 (Jw H3.o)]at ho;rw[Qh];exact ho
theorem zqq:∀(n:Nat),TD n
 |0=>λ_ _ _ _ _ _ _ _ _ _ _ _ _ _ h=>h.elim
 |n+1=>λw c o v e av ae S A m lo hi hc hr IU ha hS hA hb=>by
  have ih:=zqq n;rcases m with _|m
  .exact hr.elim
  obtain⟨hle,IU⟩:=IU;rcases hr with⟨hk,rfl⟩|⟨hk,rfl⟩|⟨hk,rfl⟩|⟨hk,sv,bv,b,h1,rfl,h3,h4⟩|⟨hk,v1,v2,e1,e2,h1,rfl,h3,h4⟩|⟨hk,v1,v2,e1,e2,h1,rfl,h3,h4⟩|⟨hk,sv,bv,b,parts,pvs,h1,rfl,h3,h4,h5,h6,h7⟩|⟨hk,cv,sv,b,ag,nvs,bvs,h1,rfl,h3,h4,h5,h6,h7,h8,h9⟩
  .rw[Y9 (.inl hk),RG];exact znO hc ha (.inl ⟨_,rfl⟩)
  .rw[zuX hk];exact zvu hc ha (by omega) ⟨e.tok.s.toArray⟩ e.tok.at_
  .rw[Y9 (.inr hk),RG];exact znO hc ha (.inr ⟨_,_,rfl⟩)
  .rw[zuV hk h1];rcases IU with h|h|⟨_,b',dm,i1,i2,i3⟩|⟨h,_⟩|⟨h,_⟩|⟨h,_⟩
   .omega
   .omega
   .rw[h1]at i1;cases i1;exact zvs ih hc h3 h4 i2 i3 ha hS hA hb
   .omega
   .omega
   .omega
  .rw[Za (.inl hk) h1];rcases IU with h|h|⟨h,_⟩|⟨_,a1,a2,dm,i1,i2,i3⟩|⟨h,_⟩|⟨h,_⟩
   .omega
   .omega
   .omega
   .rw[h1]at i1;cases i1;exact zsY ih hc h3 h4 i2 i3 ha hS hA hb
   .omega
   .omega
  .rw[Za (.inr hk) h1];rcases IU with h|h|⟨h,_⟩|⟨_,a1,a2,dm,i1,i2,i3⟩|⟨h,_⟩|⟨h,_⟩
   .omega
   .omega
   .omega
   .rw[h1]at i1;cases i1;exact zxl ih _ hc h3 h4 i2 i3 ha hS hA hb
   .omega
   .omega
  .rw[zuW hk h1];rcases IU with h|h|⟨h,_⟩|⟨h,_⟩|⟨_,b',ps,dm,i1,i2,i3⟩|⟨h,_⟩
   .omega
   .omega
   .omega
   .omega
   .rw[h1]at i1;cases i1;exact zvt ih hc h3 h4 h5 h6 h7 i2 i3 ha hS hA hb
   .omega
  .rw[zqa hk h1];rcases IU with h|h|⟨h,_⟩|⟨h,_⟩|⟨h,_⟩|⟨_,b',ps,dm,i1,i2,i3⟩
   .omega
   .omega
   .omega
   .omega
   .omega
   .rw[h1]at i1;cases i1;exact zsZ ih hc h3 h4 h5 h6 h7 h8 h9 i2 i3 ha hS hA hb
def Th.Pv (n:Nat):Nat->Nat->List Th.By->Prop
 |lo,hi,[]=>lo<=hi
 |lo,hi,x::r=>lo<=x.name.at_/\∃m1 m2,Th.Me (x.name.at_+1) m1 x.params/\Th.In n x.e m1 m2/\Th.Pv n m2 hi r
theorem Ym{n:Nat}:∀{lo hi:Nat}{l:List Th.By},Th.Pv n lo hi l->lo+l.length<=hi
 |lo,hi,[],h=>h
 |lo,hi,x::r,h=>by obtain⟨h0,m1,m2,h1,h2,h3⟩:=h;have:=Ym h3;have:=Th.In.le h2;have:=Th.Me.len h1;simp;omega
theorem ziY{n:Nat}:∀{lo hi:Nat}{l:List Th.By},Th.Pv n lo hi l->∀(k:Nat)(x:Th.By),l[k]?=some x->∃m0 m1 m2,Th.Me m0 m1 x.params/\Th.In n x.e m1 m2/\m2-m0<=hi-lo
 |lo,hi,[],_,k,x,hx=>by simp at hx
 |lo,hi,y::r,h,0,x,hx=>by obtain⟨h0,m1,m2,h1,h2,h3⟩:=h;simp only[Pk,IA]at hx;subst hx;have:=Ym h3;have:=Th.In.le h2;have:=Th.Me.len h1;exact⟨_,_,_,h1,h2,by omega⟩
 |lo,hi,y::r,h,k+1,x,hx=>by obtain⟨h0,m1,m2,h1,h2,h3⟩:=h;have:=Th.In.le h2;have:=Th.Me.len h1;obtain⟨a,b,c,i1,i2,i3⟩:=ziY h3 k x (by simpa using hx);exact⟨a,b,c,i1,i2,by omega⟩
theorem zkn(n:Nat)(all:List (List UInt8)):∀(seen:List (List UInt8))(l:List Th.By)(x:Th.By),Th.NM n all seen (l++[x])=Th.NM n all seen l++((if(seen++Th.JE l).contains x.name.s then[x.name.at_]else[])++Th.N0 [] x.params++Th.JL n x.e (all++Th.texts x.params))
 |seen,[],x=>by simp[Th.NM,Th.JE]
 |seen,y::l,x=>by simp only[MP,Th.NM];rw[zkn n all (seen++[y.name.s]) l x];simp[Th.JE]
theorem zsG{w':World}{o:Obj}(h:(w.alloc o).grownBy w' (some w.heap.size)):Below w.heap.size w w':=
 ⟨h.os,h.tape,h.output,yM (IS w o none).size h.size,λk hk=>(h.block k (Kl hk (IS w o none).size) (by intro e;injection e with e;omega)).trans ((IS w o none).block k hk (by simp))⟩
theorem zkA{pv:Value}{l:List Th.By}{S1 S2:Nat->Prop}(hr:Row S1 w 93 4 pv l.length (OH l nvs bvs))(h1:nvs.length=l.length)(h2:bvs.length=l.length)(aR:To S2 w m l nvs bvs)(IU:Th.Pv n lo hi l)(hb:hi-lo<=100000):
  Calls prog 42 #[pv] w λe w'=>e=.returned (.tuple #[.int .i64 ((Th.NM n (Th.JE l) [] l).head?.getD 0),.bool (Th.NM n (Th.JE l) [] l).head?.isSome])/\Below w.heap.size w w':=by
 have aL:=Ym IU;have lp:l.length<=100000:=by omega
 have ju:Row (λb=>b<w.heap.size) w 93 4 pv l.length (OH l nvs bvs):=hr.mono (λk hk _=>hk);have nW:To (λb=>b<w.heap.size) w m l nvs bvs:=λi x nv bv a b c=>⟨(aR i x nv bv a b c).1.mono (λk hk _=>hk),(aR i x nv bv a b c).2.mono (λk hk _=>hk)⟩
 have bR:∀(i:Nat)(nv bv:Value),nvs[i]?=some nv->bvs[i]?=some bv->nv.oneCell'=true/\bv.oneCell'=true:=λi nv bv hp hq=>by
  have:i<l.length:=by rw[<-h1];exact(Dq.1 hp).1
  have hh:=aR i l[i] nv bv (Iv this) hp hq;refine⟨?_,(ztU hh.2).one⟩;obtain⟨_,_,_,rfl⟩:=Jk hh.1;rfl
 have hC:Mo (w.alloc (.cells #[.bool false,.int .i64 0] 140)) w.heap.size none:=gH w [.bool false,.int .i64 0] _;have dE:=IS w (.cells #[.bool false,.int .i64 0] 140) none;have fj:=eu (zdS (ju.gb dE (by simp)) h1 h2 bR);have eM:=Mq hr;obtain⟨sa,sn,sc,rfl⟩:=Jk hr;have fD:Hid (sn=l.length):=eu (by
  rcases hr.1.2 with⟨h,h0⟩|⟨_,_,_,h0,_⟩
  .cases h;exact h0.symm
  .cases h0;rfl)
 have HC:=eu hC;have HR:=eu ju;have dT:=eu nW;have H1:=eu h1;have H2:=eu h2;have oz:=eu IU;clear hr ju aR nW h1 h2 IU bR hC dE aL;go_enter func42,ntmps42;go_wp2_with fail;refine fj.o.mono ?_;rintro en w1⟨tv,rfl,eC,aA⟩;obtain⟨ta,tn,tc,rfl⟩:=Jk (lP eC);have hz:w.heap.size<w1.heap.size:=Kl HC.o.lt aA.size;have lR:=eu (HC.o.below aA);have gY:=eu (qN (IS w (.cells #[.bool false,.int .i64 0] 140) (some w.heap.size)) (Bj (some w.heap.size) aA));have vD:=eu (Bj (some w.heap.size) aA);have HT:Hid (w1.ownsRow (w.heap.size+1) 9 1 (.slice ta tn tc) l.length (strCells (Th.JE l))):=eu (by have:=eC;rw[show(w.alloc (.cells #[.bool false,.int .i64 0] 140)).heap.size=w.heap.size+1 by simp]at this;exact this)
 clear eC aA fj HC;go_wp2_with fail;have aK:=fD.o;subst aK
 go_loopg [14] l.length (λgk i wr=>∃k:Nat,i=.int .i64 k/\k<=l.length/\l.length-k<=gk/\Mo wr w.heap.size (Th.NM n (Th.JE l) [] (l.take k)).head?/\w1.grownBy wr (some w.heap.size))
 case atStart=>exact⟨0,rfl,Kc _,by omega,lR.o,QT _ _⟩
 case round=>
  obtain⟨k,rfl,hk,jm,fV,hg⟩:=hrel;have jQ:=eu fV;have Hg:=eu hg;have cT:=hg.size;by_cases aj:k<l.length
  .obtain⟨g,jw⟩:∃g,sa=some ⟨g,0,none⟩:=by
    rcases eM with h|⟨g,cap,h⟩
    .have:=(nD h).2.1;omega
    .exact⟨g,(nD h).1⟩
   subst jw;have ib:=HT.o;obtain⟨g2,tf⟩:∃g2,ta=some ⟨g2,0,none⟩/\tn=l.length:=by
    rcases Mq (lP ib)with h|⟨g2,cap,h⟩
    .rcases ib.2 with⟨_,h0⟩|⟨_,_,_,h0,_⟩
     .omega
     .rw[h]at h0;cases h0
    .cases h;exact⟨g2,rfl,rfl⟩
   obtain⟨rfl,rfl⟩:=tf;have fq:=qN gY.o hg;have jT:¬((λb=>b<w.heap.size) w.heap.size):=ID _;obtain⟨x,jM⟩:∃x,l[k]?=some x:=⟨l[k],Iv aj⟩;obtain⟨nv,ay⟩:∃nv,nvs[k]?=some nv:=⟨_,Iv (by rw[H1.o];exact aj)⟩;obtain⟨bv,cC⟩:∃bv,bvs[k]?=some bv:=⟨_,Iv (by rw[H2.o];exact aj)⟩;have eH:=(dT.o k x nv bv jM ay cC).1.gb fq (λj hj=>by cases hj;exact jT);have aR:=(dT.o k x nv bv jM ay cC).2.gb fq (λj hj=>by cases hj;exact jT);obtain⟨pt,px,rfl⟩:=JQ aR;obtain⟨na,nn,nc,rfl⟩:=Jk eH;have aE:=Vj l nvs bvs k x _ _ jM ay cC;have af:=(HR.o.gb fq (λj hj=>by cases hj;exact jT)).1;have c0:=(af.cellAt (k*4) (by omega)).trans aE.1;have c1:=(af.cellAt (k*4+1) (by omega)).trans aE.2.1;have c2:=(af.cellAt (k*4+2) (by omega)).trans aE.2.2.1;have c3:=(af.cellAt (k*4+3) (by omega)).trans aE.2.2.2;have fX:=(af.lt g rfl).2;obtain⟨m0,m1,m2,bJ,IU,dq⟩:=ziY oz.o k x jM;have kT:l.length<=tc:=by
    rcases ib.2 with⟨h0,_⟩|⟨_,_,_,h0,_,_,hn,_⟩
    .cases h0
    .cases h0;exact hn
   have dF:(0:Int)<=(k:Int):=R6 _;have cK:(k:Int)<=(tc:Int):=by omega
   have kL:=ib.kept hg (Qa ib (Nat.lt_succ_self _));have gl:=Xl kL (i:=k) (by omega);rw[show(strCells (Th.JE l)).take k=strCells (Th.JE (l.take k)) by simp[strCells,Th.JE]]at gl;have oE:Hid (wr.ownsRow (w.heap.size+1) 9 1 (.slice (some ⟨g2,0,none⟩) k tc) (Th.JE (l.take k)).length (strCells (Th.JE (l.take k)))):=eu (by rw[show(Th.JE (l.take k)).length=k by simp[Th.JE];omega];exact gl)
   have CZ:Hid (Row (λb=>w.heap.size+1<=b) wr 9 1 (.slice (some ⟨g2,0,none⟩) l.length tc) (Th.JE l).length (strCells (Th.JE l))):=eu (by rw[show(Th.JE l).length=l.length by simp[Th.JE]];exact lP kL)
   have dn:=eu (λ(W:World)(hW:Mo W w.heap.size (Th.NM n (Th.JE l) [] (l.take k)).head?)(hR:W.ownsRow (w.heap.size+1) 9 1 (.slice (some ⟨g2,0,none⟩) k tc) (Th.JE (l.take k)).length (strCells (Th.JE (l.take k))))=>YB hW ⟨x.name.s.toArray⟩ x.name.at_ hR (by simp[Th.JE];omega));have Ht:=eu (PH jM);have Hd:Hid ((Th.NM n (Th.JE l) [] (l.take (k+1))).head?=after (after (after (Th.NM n (Th.JE l) [] (l.take k)).head? (if(Th.JE (l.take k)).contains x.name.s then[x.name.at_]else[])) (Th.N0 [] x.params)) (Th.JL n x.e (Th.JE l++Th.texts x.params))):=eu (by rw[Ht.o,zkn,<-Qh,<-Qh];simp only[MQ,Np];cases Th.NM n (Th.JE l) [] (l.take k)<;>rfl)
   have GP:x.params.length<=100000:=by have:=bJ.len;have:=IU.le;omega
   have HX:=eu (λ(W:World)(o:Option Nat)(av:Value)(B:Nat->Prop)(hW:Mo W w.heap.size o)(sj:wr.grownBy W (some w.heap.size))(hB:Row B W 9 1 av (Th.JE l++Th.texts x.params).length (strCells (Th.JE l++Th.texts x.params)))(DS:¬B w.heap.size)=>zqq n W w.heap.size o _ x.e av _ _ B m m1 m2 hW (aR.gb sj (λj hj=>by cases hj;exact jT)) IU hB jT DS (by have:=bJ.len;simp[Th.JE,Th.texts];omega));have HD:=eu (λ(W:World)(o:Option Nat)(hW:Mo W w.heap.size o)(sj:wr.grownBy W (some w.heap.size))=>zia hW (eH.gb sj (λj hj=>by cases hj;exact jT)) jT (by omega));have C6:=eu (λ(W:World)(sj:wr.grownBy W (some w.heap.size))=>W7 (eH.gb sj (λj hj=>by cases hj;exact jT)) (by omega));have pV:Hid (w.heap.size≠wr.heap.size):=eu (by omega);have HF:=eu (gH wr [.string ⟨x.name.s.toArray⟩,.int .i64 x.name.at_,.slice na nn nc,.iface pt px] 93);clear fV hg jM ay cC fq aR eH aE af bJ IU dq ib kL gl eM fD;go_wp2_with fail
   go_region_with (go_at_call 69;refine(dn.o _ ?_ ?_).mono ?_;exact IC (mr jQ.o _);exact(oE.o.alloc _).drew;rintro e w3⟨rfl,h3,aS⟩;have H3:=eu h3;have gC:=eu (qN (qN (IS wr (.cells #[.string ⟨x.name.s.toArray⟩,.int .i64 x.name.at_,.slice na nn nc,.iface pt px] 93) _) (Po _ _)) aS);have qs:=eu (IN (IC HF.o) aS (by intro h;injection h with h;exact pV.o h.symm));clear h3 aS)
   all_goals
    have p2:=al qs.o 2;simp at p2;go_wp2_with fail;refine(HD.o w3 _ H3.o gC.o).mono ?_;rintro en w4⟨rfl,jj,bM⟩;have gZ:=eu (qN gC.o bM);have pF:=eu (IN qs.o bM (by intro h;injection h with h;exact pV.o h.symm));have yP:=eu jj;have q2:=al pF.o 2;have q3:=al pF.o 3;have bV:=pF.o.lt;simp at q2 q3;clear jj bM p2 H3 gC qs HD c0 c1 c2 c3;go_wp2_with fail
    go_region_with (first
     |(go_at_call 52;refine(C6.o _ ?_).mono ?_;exact qN gZ.o (Po _ _);rintro Gi w5⟨Hj,rfl,h5,b5⟩;obtain⟨xa,xn,xc,rfl⟩:=Jk (lP h5);have lS:=eu (qN (qN gZ.o (Po _ _)) (Bj (some w.heap.size) b5));have yQ:=eu ((IC yP.o).below b5 yP.o.lt);have vz:=eu ((IC pF.o).below b5 bV);have r3:=al vz.o 3;have fC:w4.heap.size<=w5.heap.size:=b5.size;have GH:wr.heap.size<w5.heap.size:=Kl bV fC;have C0:Hid (w5.ownsRow w4.heap.size 9 1 (.slice xa xn xc) (Th.texts x.params).length (strCells (Th.texts x.params))):=eu (by simpa[Th.texts]using h5);simp at r3;clear h5 b5)
     |(go_at_call 72;refine(Yt (CZ.o.gb lS.o (λj hj=>by cases hj;exact Nat.not_succ_le_self _)) (lP C0.o) (by simp[Th.JE];omega) (by simp[Th.texts];omega)).mono ?_;rintro Gj w6⟨ka,kn,kc,rfl,h6,b6⟩;have kb:=eu (qN lS.o (Bj (some w.heap.size) b6));have BH:=eu (yQ.o.below b6 yQ.o.lt);have Cj:=eu h6;have s3:=al (vz.o.below b6 vz.o.lt) 3;simp at s3;clear h6 b6)
     |(go_at_call 71;refine(HX.o w6 _ _ _ BH.o kb.o Cj.o ?_).mono ?_;exactλ(h:w5.heap.size<=w.heap.size)=>absurd h (by omega);rintro Gk w7⟨rfl,h7,g7⟩;have BI:=eu h7;have qv:=eu (qN kb.o g7);clear h7 g7))
    all_goals
     go_wp2
     go_roundg (l.length-(k+1))
     case measure=>omega
     case rel=>refine⟨k+1,by go_num,by omega,qP _,?_,qN Hg.o qv.o⟩;rw[Hd.o];exact BI.o
  .have aG:k=l.length:=by omega
   have Hk:=eu aG;have c0:=al fV 0;have c1:=al fV 1;simp at c0 c1;have Cc:=eu (zsG (o:=.cells #[.bool false,.int .i64 0] 140) (qN vD.o hg));rw[aG,N8 (qP _)]at c0 c1;obtain⟨hd,kh⟩:∃hd,(Th.NM n (Th.JE l) [] l).head?=hd:=⟨_,rfl⟩;rw[kh]at c0 c1;have ox:=eu kh;clear kh;clear fV hg aG jQ;cases hd
   all_goals
    simp at c0 c1;go_wp2_with fail
    go_region_with fail
    all_goals
     go_wp2
     go_ret2
     refine⟨by rw[ox.o];kernel_rfl,Pw (qN (Bj none Cc.o) (Po _ _))⟩
def Th.Pp:List Th.By->Bool
 |[]=>false
 |x::r=>if x.name.s == Th.Oy then x.params.isEmpty else Th.Pp r
theorem zid:∀(l:List Th.By)(k:Nat)(x:Th.By),(∀y∈l.take k,y.name.s≠Th.Oy)->l[k]?=some x->x.name.s=Th.Oy->Th.Pp l=x.params.isEmpty
 |[],k,x,_,h,_=>by simp at h
 |y::l,0,x,_,h,hx=>by simp only[Pk,IA]at h;subst h;simp[Th.Pp,hx]
 |y::l,k+1,x,hn,h,hx=>by have h1:y.name.s≠Th.Oy:=hn y (by simp);simp only[Th.Pp];rw[pL (by simpa using h1)];exact zid l k x (λz hz=>hn z (by simp[hz])) (by simpa using h) hx
theorem zf7:∀(l:List Th.By),(∀y∈l,y.name.s≠Th.Oy)->Th.Pp l=false
 |[],_=>rfl
 |y::l,hn=>by have h1:y.name.s≠Th.Oy:=hn y (by simp);simp only[Th.Pp];rw[pL (by simpa using h1)];exact zf7 l (λz hz=>hn z (by simp[hz]))
theorem zpv{pv:Value}{l:List Th.By}{S1 S2:Nat->Prop}(hr:Row S1 w 93 4 pv l.length (OH l nvs bvs))(h1:nvs.length=l.length)(h2:bvs.length=l.length)(aR:To S2 w m l nvs bvs)(lp:l.length<=100000):
  Calls prog 43 #[pv] w λe w'=>e=.returned (.bool (Th.Pp l))/\Below w.heap.size w w':=by
 have eM:=Mq hr;obtain⟨sa,sn,sc,rfl⟩:=Jk hr;have fD:Hid (sn=l.length):=eu (by
  rcases hr.1.2 with⟨h,h0⟩|⟨_,_,_,h0,_⟩
  .cases h;exact h0.symm
  .cases h0;rfl)
 have HR:=eu hr;have dT:=eu aR;have H1:=eu h1;have H2:=eu h2;clear hr aR h1 h2;go_enter func43,ntmps43;go_wp2_with fail;have aK:=fD.o;subst aK
 go_loopg [7] l.length (λgk i wr=>∃k:Nat,i=.int .i64 k/\k<=l.length/\l.length-k<=gk/\(∀y∈l.take k,y.name.s≠Th.Oy)/\Below w.heap.size w wr)
 case atStart=>exact⟨0,rfl,Kc _,by omega,by simp,Below.refl _ _⟩
 case round=>
  obtain⟨k,rfl,hk,jm,bu,hg⟩:=hrel;have Hg:=eu hg;have bW:=eu bu;have cT:=hg.size;by_cases aj:k<l.length
  .obtain⟨g,jw⟩:∃g,sa=some ⟨g,0,none⟩:=by
    rcases eM with h|⟨g,cap,h⟩
    .have:=(nD h).2.1;omega
    .exact⟨g,(nD h).1⟩
   subst jw;obtain⟨x,jM⟩:∃x,l[k]?=some x:=⟨l[k],Iv aj⟩;obtain⟨nv,ay⟩:∃nv,nvs[k]?=some nv:=⟨_,Iv (by rw[H1.o];exact aj)⟩;obtain⟨bv,cC⟩:∃bv,bvs[k]?=some bv:=⟨_,Iv (by rw[H2.o];exact aj)⟩;have fq:=Bj none hg;have eH:=(dT.o k x nv bv jM ay cC).1.gb fq (by simp);have aR:=(dT.o k x nv bv jM ay cC).2.gb fq (by simp);obtain⟨pt,px,rfl⟩:=JQ aR;obtain⟨na,nn,nc,rfl⟩:=Jk eH;have iZ:nn=x.params.length:=by
    rcases eH.1.2 with⟨h,h0⟩|⟨_,_,_,h0,_⟩
    .cases h;exact h0.symm
    .cases h0;rfl
   have aE:=Vj l nvs bvs k x _ _ jM ay cC;have af:=(HR.o.gb fq (by simp)).1;have c0:=(af.cellAt (k*4) (by omega)).trans aE.1;have c1:=(af.cellAt (k*4+1) (by omega)).trans aE.2.1;have c2:=(af.cellAt (k*4+2) (by omega)).trans aE.2.2.1;have c3:=(af.cellAt (k*4+3) (by omega)).trans aE.2.2.2;have fX:=(af.lt g rfl).2;have Db:=eu jM;by_cases hx:x.name.s=Th.Oy
   .have HX:=eu hx;have uP:Hid (x.params.isEmpty=decide (nn=0)):=eu (by rw[iZ];cases x.params<;>rfl);rw[show(x.name.s.toArray)=#[109,97,105,110] by rw[hx];rfl]at c0;clear bu hg jM ay cC fq aR eH aE af eM fD hx iZ;go_wp2;go_ret;refine⟨?_,Pw (qN (Bj none Hg.o) (IS _ _ _))⟩;rw[zid l k x bW.o Db.o HX.o,uP.o];show Ending.returned (.bool ((nn:Int) == 0))=Ending.returned (.bool (decide (nn=0)));congr 2;rw[SV];simp
   .have HX:=eu hx;have aH:(x.name.s == [109,97,105,110])=false:=by
     rw[kJ];exact hx
    have Ht:=eu (PH jM);clear bu hg jM ay cC fq aR eH aE af eM fD hx iZ;go_wp2
    go_roundg (l.length-(k+1))
    case measure=>omega
    case rel=>
     refine⟨k+1,by go_num,by omega,qP _,?_,Pw (qN (Bj none Hg.o) (IS _ _ _))⟩;rw[Ht.o];intro y hy;rcases Ni.1 hy with hy|hy
     .exact bW.o y hy
     .rw[NA.1 hy];exact HX.o
  .have aG:k=l.length:=by omega
   have Hk:=eu aG;clear bu hg aG;go_wp2;go_ret;refine⟨?_,Hg.o⟩;have ho:=bW.o;rw[Hk.o,N8 (qP _)]at ho;rw[zf7 l ho];rfl
end
section
open Go.RowKit
structure Plain (s:ByteArray) (q:List Th.By × Th.St) (N:Nat):Prop where
 Kt:Good (Mr s)
 ne:Mr s≠[]
 lines:∃n k,n<=1000000/\k<=1000000/\Th.N7 (Th.Mn n) k [] ⟨Mr s,none⟩=some q
 within:q.2.bad=none->∃lo hi,Th.Pv N lo hi q.1/\hi-lo<=100000
def answer (size:Nat) (q:List Th.By × Th.St) (N:Nat):Nat × Nat:=
 match q.2.bad with
 |some p=>(2,p)
 |none=>match(Th.NM N (Th.JE q.1) [] q.1).head? with
  |some p=>(3,p)
  |none=>if Th.Pp q.1 then(0,0)else(4,size)
def YV (s:ByteArray) (q:List Th.By × Th.St) (N:Nat) (w:World) (e:Ending) (w':World):Prop:=
 Below w.heap.size w w'/\∃pv,e=.returned (.tuple #[pv,.int .i64 (answer s.size q N).1,.int .i64 (answer s.size q N).2])/\(∃a k c,pv=.slice a k c)/\((answer s.size q N).1=0->UO (IB w) w' pv q.1)
variable {s:ByteArray}
theorem zob(h:600<s.size)(w:World):
  Calls prog 33 #[.string s] w λe w'=>e=.returned (.tuple #[.slice none 0 0,.int .i64 1,.int .i64 0])/\w'=w:=by
 have hz:(600:Int)<(s.size:Int):=by omega
 go_enter func33,ntmps33;go_wp2
 go_ret3
 exact⟨rfl,rfl⟩
theorem Y0{q:List Th.By × Th.St}{N:Nat}(hs:s.size<=600)(hp:Plain s q N)(w:World):
  Calls prog 33 #[.string s] w λe w'=>YV s q N w e w':=by
 have hz:¬((600:Int)<(s.size:Int)):=by omega
 obtain⟨n,k,hn,hk,hq⟩:=hp.lines;have dn:=eu (zpJ zri s w hs hp.Kt hp.ne n k hn hk q hq);have HP:=eu hp;clear hp hq;go_enter func33,ntmps33;go_wp2_with fail;refine dn.o.mono ?_;rintro e w1⟨hb,hh⟩;have Hb:=eu hb;clear hb dn;rcases hh with⟨p,aQ,rfl⟩|⟨aQ,pv,rfl,aR⟩
 .have HB:=eu aQ;clear aQ;go_wp2
  go_ret3
  refine⟨Hb.o,.slice none 0 0,?_,⟨_,_,_,rfl⟩,λh=>?_⟩
  .simp only[answer,HB.o];rfl
  .simp only[answer,HB.o]at h;cases h
 .have HB:=eu aQ;obtain⟨lo,hi,IU,dq⟩:=HP.o.within aQ;obtain⟨nvs,bvs,m,h1,h2,af,jY⟩:=aR;obtain⟨pa,pk,pc,rfl⟩:=Jk af;have fE:=eu (zkA af h1 h2 jY IU dq);have lp:q.1.length<=100000:=by have:=Ym IU;omega
  have eP:=eu (λ(W:World)(hW:Below w1.heap.size w1 W)=>zpv (af.gb (Bj none hW) (by simp)) h1 h2 (λi x nv bv a b c=>⟨(jY i x nv bv a b c).1.gb (Bj none hW) (by simp),(jY i x nv bv a b c).2.gb (Bj none hW) (by simp)⟩) lp);have Dm:=eu (λ(W:World)(hW:Below w1.heap.size w1 W)=>(⟨nvs,bvs,m,h1,h2,af.gb (Bj none hW) (by simp),λi x nv bv a b c=>⟨(jY i x nv bv a b c).1.gb (Bj none hW) (by simp),(jY i x nv bv a b c).2.gb (Bj none hW) (by simp)⟩⟩:UO (IB w) W (.slice pa pk pc) q.1));clear aQ IU dq af h1 h2 jY lp;go_wp2_with fail;refine fE.o.mono ?_;rintro e w2⟨rfl,aw⟩;have cO:=eu aw;have jN:=eu (eP.o w2 aw);clear aw fE eP;obtain⟨hd,kh⟩:∃hd,(Th.NM N (Th.JE q.1) [] q.1).head?=hd:=⟨_,rfl⟩;rw[kh];have ox:=eu kh;clear kh;have yO:Hid (Below w.heap.size w w2):=eu (Pw (qN (Bj none Hb.o) (Bj none cO.o)));cases hd with
  |some p=>
   simp only[Wp,Option.isSome_some];go_wp2
   go_ret3
   refine⟨yO.o,.slice none 0 0,?_,⟨_,_,_,rfl⟩,λh=>?_⟩
   .simp only[answer,HB.o,ox.o];rfl
   .simp only[answer,HB.o,ox.o]at h;cases h
  |none=>
   simp only[Option.getD_none,Option.isSome_none];go_wp2_with fail;refine jN.o.mono ?_;rintro e w3⟨rfl,bD⟩;have mw:Hid (Below w.heap.size w w3):=eu (Pw (qN (Bj none yO.o) (Bj none bD)));have Cy:=eu (Dm.o w3 (Pw (qN (Bj none cO.o) (Bj none bD))));clear bD jN;cases hm:Th.Pp q.1
   .have HM:=eu hm;clear hm;go_wp2
    go_ret3
    refine⟨mw.o,.slice none 0 0,?_,⟨_,_,_,rfl⟩,λh=>?_⟩
    .simp only[answer,HB.o,ox.o,HM.o];rfl
    .simp only[answer,HB.o,ox.o,HM.o]at h;cases h
   .have HM:=eu hm;clear hm;go_wp2
    go_ret3
    refine⟨mw.o,.slice pa pk pc,?_,⟨_,_,_,rfl⟩,λ_=>Cy.o⟩;simp only[answer,HB.o,ox.o,HM.o];rfl
theorem zyb(h:600<s.size)(w:World):
  Calls prog 28 #[.string s] w λe w'=>e=.returned (.tuple #[.int .i64 1,.int .i64 0])/\Below w.heap.size w w':=by
 go_enter func28,ntmps28;go_wp2_with fail;refine(zob h w).mono ?_;rintro e w1⟨rfl,rfl⟩;go_wp2
 go_ret2
 exact⟨rfl,Below.refl _ _⟩
theorem zyk{q:List Th.By × Th.St}{N:Nat}(hs:s.size<=600)(hp:Plain s q N)(w:World):
  Calls prog 28 #[.string s] w λe w'=>e=.returned (.tuple #[.int .i64 (answer s.size q N).1,.int .i64 (answer s.size q N).2])/\Below w.heap.size w w':=by
 have dn:=eu (Y0 hs hp w);clear hp hs;go_enter func28,ntmps28;go_wp2_with fail;refine dn.o.mono ?_;rintro e w1⟨hb,pv,rfl,⟨a,k,c,rfl⟩,_⟩;have Hb:=eu hb;clear hb dn;go_wp2
 go_ret2
 exact⟨rfl,Hb.o⟩
end
end Go.Proofs.YtgahgkddaljmkaaGreatDoor
namespace Go.Proofs.YtgahgkddaljmkaaGreatDoor.Th
open Tryz
def mu (st:St):Nat:=if st.bad.isNone then st.rest.length+1 else 0
theorem zxy(st:St):mu st.fail=0:=by unfold mu St.fail;cases h:st.bad<;>simp[h]
theorem YL(st:St):st.fail.bad≠none:=by unfold St.fail;cases h:st.bad<;>simp[h]
variable {st:St}
theorem Ri{s:List UInt8}(h:st.is s=true)(hs:s≠[]:=by simp):st.bad=none/\∃t r,st.rest=t::r/\t.s=s:=by
 unfold St.is St.hd at h;simp only[OR,It,uq]at h;refine⟨h.1,?_⟩;cases hr:st.rest with
 |nil=>rw[hr]at h;exact absurd h.2.symm hs
 |cons t r=>rw[hr]at h;exact⟨t,r,rfl,h.2⟩
theorem Xd{k:Nat}(h:st.kind k=true)(hk:k≠0:=by decide):st.bad=none/\∃t r,st.rest=t::r/\t.k=k:=by
 unfold St.kind St.hd at h;simp only[OR,It,uq]at h;refine⟨h.1,?_⟩;cases hr:st.rest with
 |nil=>rw[hr]at h;exact absurd h.2.symm hk
 |cons t r=>rw[hr]at h;exact⟨t,r,rfl,h.2⟩
variable {lo M:Nat}
theorem Me.down{dL:Nat}{l:List Tok}(h:Me lo M l)(hl:dL<=lo):Me dL M l:=by
 cases l with
 |nil=>exact yM hl h
 |cons t r=>exact⟨yM hl h.1,h.2⟩
theorem Me.tail{t:Tok}{l:List Tok}(h:Me lo M (t::l)):Me (lo+1) M l:=h.2.down (by have:=h.1;omega)
structure Step (d:Nat) (st st':St):Prop where
 mu:mu st'+d<=mu st\/Th.mu st'=0
 bad:st'.bad=none->st.bad=none
 PA:∀lo M,Me lo M st.rest->st'.bad=none->Me (lo+d) M st'.rest
variable {d:Nat}{a:St}
theorem Step.le{b:St}(h:Step d a b):Th.mu b<=Th.mu a:=by rcases h.mu with h|h<;>omega
variable {d':Nat}
theorem Step.trans{b c:St}(h:Step d a b)(k:Step d' b c):Step (d+d') a c:=by
 refine⟨?_,λhc=>h.bad (k.bad hc),λlo M hr hc=>?_⟩
 .rcases h.mu with h1|h1<;>rcases k.mu with k1|k1
  .exact .inl (by omega)
  .exact .inr k1
  .exact .inr (by omega)
  .exact .inr k1
 .have:=k.PA (lo+d) M (h.PA lo M hr (k.bad hc)) hc;rw[Nat.add_assoc]at this;exact this
theorem Step.Oj{b:St}(h:Step d a b)(hd:d'<=d):Step d' a b:=
 ⟨by rcases h.mu with h|h;exact .inl (by omega);exact .inr h,h.bad,λlo M hr hc=>(h.PA lo M hr hc).down (by omega)⟩
theorem Step.refl(st:St):Step 0 st st:=⟨.inl (qP _),id,λ_ _ h _=>h⟩
theorem YH(d:Nat)(st:St):Step d st st.fail:=⟨.inr (zxy st),λh=>absurd h (YL st),λ_ _ _ h=>absurd h (YL st)⟩
theorem zqV{t:Tok}{r:List Tok}(hb:st.bad=none)(hr:st.rest=t::r):Step 1 st st.qM:=by
 refine⟨.inl ?_,λ_=>hb,λlo M h _=>?_⟩
 .simp[Th.mu,St.qM,hb,hr]
 .rw[hr]at h;simp only[St.qM,hr,JO];exact h.tail
theorem QD{s:List UInt8}(h:st.is s=true)(hs:s≠[]):Step 1 st st.qM:=by obtain⟨hb,t,r,hr,_⟩:=Ri h hs;exact zqV hb hr
theorem YI{k:Nat}(h:st.kind k=true)(hk:k≠0:=by decide):Step 1 st st.qM:=by obtain⟨hb,t,r,hr,_⟩:=Xd h hk;exact zqV hb hr
theorem QP{s:List UInt8}(hs:s≠[])(st:St):Step 1 st (want s st):=by
 unfold want;split
 .rename_i h;exact QD h hs
 .exact YH _ _
theorem zhX(st:St):Step 1 st (IG st).2:=by
 unfold IG;split
 .rename_i h;exact YI h
 .exact YH _ _
theorem ze0(a b:Nat)(st:St):Step 1 st (Kv a b st).2:=by
 unfold Kv;split
 .rename_i h;simp only[OR]at h;exact YI h.1.1
 .exact YH _ _
theorem zmF(h:Me lo M st.rest)(hb:(IG st).2.bad=none):lo<=(IG st).1.at_/\Me ((IG st).1.at_+1) M (IG st).2.rest:=by
 unfold IG at hb|-;split at hb
 .rename_i hk;rw[nB hk];obtain⟨_,t,r,hr,_⟩:=Xd hk;rw[hr]at h;simp only[St.hd,St.qM,hr,List.headD_cons,JO];exact h
 .exact absurd hb (YL st)
theorem zgc(p:Tok->Bool):∀{lo M:Nat}{l:List Tok},Me lo M l->∃m,Me lo m (l.takeWhile p)/\Me m M (l.dropWhile p)
 |lo,M,[],h=>⟨lo,qP lo,h⟩
 |lo,M,t::l,h=>by
  by_cases ht:p t=true
  .obtain⟨m,h1,h2⟩:=zgc p h.2;simp only[List.takeWhile_cons,List.dropWhile_cons,ht,kP];exact⟨m,⟨h.1,h1⟩,h2⟩
  .simp only[List.takeWhile_cons,List.dropWhile_cons,ht];exact⟨lo,qP lo,h⟩
theorem Yy(h:Me lo M st.rest)(hb:(JR st).2.bad=none):∃m,Me lo m (JR st).1/\Me m M (JR st).2.rest:=by
 unfold JR at hb|-;split at hb
 .rename_i hk;rw[nB hk];exact zgc _ h
 .rename_i hk;rw[hb]at hk;simp at hk
theorem zgu(st:St):Step 0 st (JR st).2:=by
 refine⟨.inl ?_,?_,λlo M h hb=>?_⟩
 .unfold JR;split
  .rename_i hk;simp only[Th.mu,hk,kP,JJ];have:=(IH (l:=st.rest) (λt:Tok=>t.k == 2)).length_le;omega
  .exact qP _
 .unfold JR;split
  .rename_i hk;intro _;simpa using hk
  .exact id
 .obtain⟨m,h1,h2⟩:=Yy h hb;exact h2.down (by have:=h1.len;omega)
theorem Oc.imp{P Q:Ex->Nat->Nat->Prop}(h:∀e lo hi,P e lo hi->Q e lo hi):∀{lo hi:Nat}{l:List Tok}{es:List Ex},Oc P lo hi l es->Oc Q lo hi l es
 |_,_,[],[],k=>k
 |_,_,_::_,_::_,⟨k1,m,k2,k3⟩=>⟨k1,m,h _ _ _ k2,Oc.imp h k3⟩
 |_,_,[],_::_,k=>k.elim
 |_,_,_::_,[],k=>k.elim
theorem OW.imp{P Q:Ex->Nat->Nat->Prop}(h:∀e lo hi,P e lo hi->Q e lo hi):∀{lo hi:Nat}{l:List (Nat × List Tok)}{es:List Ex},OW P lo hi l es->OW Q lo hi l es
 |_,_,[],[],k=>k
 |_,_,_::_,_::_,⟨m1,m2,k1,k2,k3⟩=>⟨m1,m2,k1,h _ _ _ k2,OW.imp h k3⟩
 |_,_,[],_::_,k=>k.elim
 |_,_,_::_,[],k=>k.elim
theorem In.succ:∀(n:Nat)(e:Ex)(lo hi:Nat),In n e lo hi->In (n+1) e lo hi
 |0,_,_,_,h=>h.elim
 |n+1,e,lo,hi,h=>by
  have ih:=In.succ n;refine⟨h.1,?_⟩;rcases h.2 with h|h|⟨hk,b,m,h1,h2,h3⟩|⟨hk,e1,e2,m,h1,h2,h3⟩|⟨hk,b,ps,m,h1,h2,h3⟩|⟨hk,b,bs,m,h1,h2,h3⟩
  .exact .inl h
  .exact .inr (.inl h)
  .exact .inr (.inr (.inl ⟨hk,b,m,h1,h2,ih _ _ _ h3⟩))
  .exact .inr (.inr (.inr (.inl ⟨hk,e1,e2,m,h1,ih _ _ _ h2,ih _ _ _ h3⟩)))
  .exact .inr (.inr (.inr (.inr (.inl ⟨hk,b,ps,m,h1,h2.imp ih,ih _ _ _ h3⟩))))
  .exact .inr (.inr (.inr (.inr (.inr ⟨hk,b,bs,m,h1,ih _ _ _ h2,h3.imp ih⟩))))
variable {n m hi:Nat}
theorem In.mono{e:Ex}(h:In n e lo hi)(hm:n<=m):In m e lo hi:=by
 induction hm with
 |refl=>exact h
 |step _ ih=>exact In.succ _ _ _ _ ih
variable {P:Ex->Nat->Nat->Prop}
theorem Oc.down{dL:Nat}{l:List Tok}{es:List Ex}(h:Oc P lo hi l es)(hl:dL<=lo):Oc P dL hi l es:=by
 cases l<;>cases es
 .exact yM hl h
 .exact h.elim
 .exact h.elim
 .exact⟨yM hl h.1,h.2⟩
theorem In.down:∀{n:Nat}{e:Ex}{lo dL hi:Nat},In n e lo hi->dL<=lo->In n e dL hi
 |0,_,_,_,_,h,_=>h.elim
 |n+1,e,lo,dL,hi,h,hl=>by
  refine⟨yM hl h.1,?_⟩;rcases h.2 with h|h|⟨hk,b,m,h1,h2,h3⟩|⟨hk,e1,e2,m,h1,h2,h3⟩|⟨hk,b,ps,m,h1,h2,h3⟩|⟨hk,b,bs,m,h1,h2,h3⟩
  .exact .inl h
  .exact .inr (.inl ⟨h.1,yM hl h.2.1,h.2.2⟩)
  .exact .inr (.inr (.inl ⟨hk,b,m,h1,h2.down hl,h3⟩))
  .exact .inr (.inr (.inr (.inl ⟨hk,e1,e2,m,h1,h2.down hl,h3⟩)))
  .exact .inr (.inr (.inr (.inr (.inl ⟨hk,b,ps,m,h1,h2.down hl,h3⟩))))
  .exact .inr (.inr (.inr (.inr (.inr ⟨hk,b,bs,m,h1,h2.down hl,h3⟩))))
structure MK (d:Nat) (st:St) (e:Ex) (st':St):Prop where
 step:Step d st st'
 Oh:∀lo M,Me lo M st.rest->st'.bad=none->∃N hi,In N e lo hi/\Me hi M st'.rest
theorem MK.Oj{d d':Nat}{st st':St}{e:Ex}(h:MK d st e st')(hd:d'<=d):MK d' st e st':=⟨h.step.Oj hd,h.Oh⟩
theorem MK.pre{b c:St}{e:Ex}(h:Step d a b)(k:MK d' b e c):MK (d+d') a e c:=
 ⟨h.trans k.step,λlo M hr hc=>by obtain⟨N,hi,h1,h2⟩:=k.Oh _ M (h.PA lo M hr (k.step.bad hc)) hc;exact⟨N,hi,h1.down (by omega),h2⟩⟩
theorem MK.post{b c:St}{e:Ex}(h:MK d a e b)(k:Step d' b c):MK (d+d') a e c:=
 ⟨h.step.trans k,λlo M hr hc=>by obtain⟨N,hi,h1,h2⟩:=h.Oh lo M hr (k.bad hc);exact⟨N,hi,h1,(k.PA _ M h2 hc).down (by omega)⟩⟩
theorem MK.fail(d:Nat)(st:St)(e:Ex):MK d st e st.fail:=⟨YH d st,λ_ _ _ h=>absurd h (YL st)⟩
theorem znQ{st':St}{e:Ex}(h:Step d st st')(hk:e.kind=1\/e.kind=3):MK d st e st':=
 ⟨h,λlo M hr hc=>⟨1,lo,⟨qP _,.inl hk⟩,(h.PA lo M hr hc).down (by omega)⟩⟩
theorem zml{b c:St}{e e1 e2:Ex}(hk:e.kind=5\/e.kind=6)(he:e.kids=[e1,e2])(h:MK d a e1 b)(k:MK d' b e2 c):MK (d+d') a e c:=
 ⟨h.step.trans k.step,λlo M hr hc=>by obtain⟨N1,m,h1,h2⟩:=h.Oh lo M hr (k.step.bad hc);obtain⟨N2,hi,k1,k2⟩:=k.Oh m M h2 hc;exact⟨max N1 N2+1,hi,⟨yM h1.le k1.le,.inr (.inr (.inr (.inl ⟨hk,e1,e2,m,he,h1.mono (by omega),k1.mono (by omega)⟩)))⟩,k2⟩⟩
theorem zrt(st:St):MK 1 st (PN st).1 (PN st).2:=
 znQ ((((ze0 1 99 st).trans (QP (s:=[44]) (by simp) _)).trans (ze0 0 9 _)).trans (QP (s:=[125]) (by simp) _)|>.Oj (by omega)) (.inr rfl)
theorem zs6(h:st.kind 2=true):MK 1 st (NY st.hd) st.qM:=by refine⟨YI h,λlo M hr _=>?_⟩;obtain⟨_,t,r,ju,_⟩:=Xd h;rw[ju]at hr;simp only[St.hd,St.qM,ju,List.headD_cons,JO];exact⟨1,t.at_+1,⟨by have:=hr.1;omega,.inr (.inl ⟨rfl,hr.1,by simp[NY]⟩)⟩,hr.2⟩
def Qd (n:Nat) (ex:Rd):Prop:=∀c st,mu st+1<n->∃r,ex c st=some r/\MK 0 st r.1 r.2
theorem zqN{ex:Rd}(hx:Qd n ex)(h:mu st<n):∃r,NZ ex st=some r/\MK 1 st r.1 r.2:=by
 unfold NZ;split
 .rename_i hk;exact⟨_,rfl,zs6 hk⟩
 split
 .rename_i hk;exact⟨_,rfl,znQ (YI hk) (.inl rfl)⟩
 split
 .rename_i hk;exact⟨_,rfl,(MK.pre (QD hk (by simp)) (zrt _)).Oj (by omega)⟩
 split
 .rename_i hk;have hs:=QD hk (by simp);have hb:=(Ri hk).1;obtain⟨r,h1,h2⟩:=hx false st.qM (by
   have h3:mu st.qM+1<=mu st:=by
    rcases hs.mu with h3|h3
    .exact h3
    .have:mu st≠0:=by simp[mu,hb]
     omega
   omega)
  rw[h1];exact⟨_,rfl,((MK.pre hs h2).post (QP (s:=[41]) (by simp) _)).Oj (by omega)⟩
 .exact⟨_,rfl,MK.fail _ _ _⟩
end Go.Proofs.YtgahgkddaljmkaaGreatDoor.Th
