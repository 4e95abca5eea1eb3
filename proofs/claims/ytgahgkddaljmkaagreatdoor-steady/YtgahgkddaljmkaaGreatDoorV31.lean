/- Scope7 .. Scope9 -/
import Derived.Test.YtgahgkddaljmkaaGreatDoorV30
import Derived.Deep.DrawnRows
import Derived.Test.YtgahgkddaljmkaaGreatDoorV1
set_option maxRecDepth 100000
set_option maxHeartbeats 4000000
namespace Go.Proofs.YtgahgkddaljmkaaGreatDoor
open Go.RowKit
attribute [local go_sem ↓] Go.wp_at_zero Go.wp_at_succ
theorem zgw(wr:Th.Ex->List (List UInt8)->List Nat)(ar:List (List UInt8)):∀ (seen:List (List UInt8)) (l:List Th.Tok) (es:List Th.Ex) (t:Th.Tok) (e:Th.Ex),l.length=es.length ->
  Th.zbo wr ar seen (l++[t]) (es++[e])=Th.zbo wr ar seen l es++((if (seen++Th.texts l).contains t.s then [t.at_] else [])++wr e ar)
 |seen,[],[],t,e,_=>by simp[Th.zbo,Th.texts]
 |seen,x::l,y::es,t,e,h=>by
  simp only[zx5,Th.zbo];rw[zgw wr ar (seen++[x.s]) l es t e (by simpa using h)];simp[Th.texts]
 |_,[],_::_,_,_,h=>by simp at h
 |_,_::_,[],_,_,h=>by simp at h
theorem zgm{n:Nat}:∀ {lo hi:Nat} {l:List Th.Tok} {es:List Th.Ex},Th.zbc (Th.In n) lo hi l es->∀ (k:Nat) (p:Th.Ex),es[k]?=some p->∃ lo' hi',Th.In n p lo' hi'/\l.length+(hi' - lo')<=hi-lo
 |lo,hi,[],[],_,k,p,hp=>by simp at hp
 |lo,hi,t::r,e::es,h,0,p,hp=>by
  obtain ⟨h1,m,h2,h3⟩:=h;simp only[zyh,zxL]at hp;subst hp;have:=Th.zbc.len h3;have:=Th.In.le h2;exact ⟨_,_,h2,by simp;omega⟩
 |lo,hi,t::r,e::es,h,k+1,p,hp=>by
  obtain ⟨h1,m,h2,h3⟩:=h;have:=Th.zbc.len h3;have:=Th.In.le h2;obtain ⟨lo',hi',h4,h5⟩:=zgm h3 k p (by simpa using hp);exact ⟨lo',hi',h4,by simp;omega⟩
 |_,_,[],_::_,h,_,_,_=>h.elim
 |_,_,_::_,[],h,_,_,_=>h.elim
variable {n:Nat}
variable {w:World}
variable {c:Nat}
variable {o:Option Nat}
variable {sv av:Value}
variable {l:List Th.Tok}
variable {b:Th.Ex}
variable {around:List (List UInt8)}
variable {S A:Nat->Prop}
variable {m lo mid hi:Nat}
theorem zw0(hx:zvY n){r:Bool}{bv:Value}{parts:List Th.Ex}{pvs:List Value}(hc:Chk w c o)(h3:parts.length=l.length)(h4:pvs.length=l.length)(h5:Row S w 312 3 sv l.length (zaM l pvs))(h6:∀ (i:Nat) (pv:Value) (p:Th.Ex),pvs[i]?=some pv->parts[i]?=some p->Rep S w m pv p)(h7:Rep S w m bv b)(h1:Th.zbc (Th.In n) lo mid l parts)(h2:Th.In n b mid hi)(ha:Row A w 9 1 av around.length (strCells around))(hS:¬ S c)(hA:¬ A c)(hb:around.length+(hi-lo)<=1000000):
  Calls Tryz.prog 121 #[.pointer (some ⟨c,0,none⟩),.agg #[.bool r,sv,bv],av] w fun en w'=>en=.returned (.tuple #[])/\Chk w' c (after o (Th.zbo (Th.zar n) (if r then around++Th.texts l else around) [] l parts++Th.zar n b (around++Th.texts l)))/\w.grownBy w' (some c):=by
 have hl1:=h1.len;have hl2:=h2.le;have hcl:=hc.lt;have hll:l.length<=1000000:=by omega
 have hal:around.length<=1000000:=by omega
 have hone:∀ (i:Nat) (pv:Value),pvs[i]?=some pv->pv.oneCell'=true:=fun i pv hp=>by
  have:i<parts.length:=by rw[h3,<-h4];exact (zxH.1 hp).1
  exact (zsj (h6 i pv parts[i] hp (zxI this))).one
 have HONE:=zab hone;obtain ⟨t,x,rfl⟩:=zah h7;obtain ⟨aa,an,ac,rfl⟩:=zae ha;have hss:=zan h5;have HC:=zab hc;have H3:=zab h3;have H4:=zab h4;have H5:=zab h5;have H6:=zab h6;have H7:=zab h7;have HA:=zab ha;have HI:=zab (And.intro h1 (And.intro h2 (And.intro hS hA)));have HL:Hid ((around++Th.texts l).length+(hi-mid)<=1000000/\around.length+(mid-lo)<=1000000):=zab (by simp[Th.texts];omega);have HX:=zab hx;clear hc h3 h4 h5 h6 h7 ha h1 h2 hS hA hb hx hl1 hl2 hone;obtain ⟨sa,sn,sc,hse⟩:∃ sa sn sc,sv=.slice sa sn sc:=by
  rcases hss with h|⟨g,cap,h⟩
  ·exact ⟨_,_,_,h⟩
  ·exact ⟨_,_,_,h⟩
 subst hse;have hE:=Blk.new w [.bool r,.slice sa sn sc,.iface t x] 178;have hg0:=zag w (.cells #[.bool r,.slice sa sn sc,.iface t x] 178) (some c);have hbn:=zab (zcY (rb:=r) (bt:=t) (bx:=x) (H5.o.gb hg0 (fun j hj=>by cases hj;exact HI.o.2.2.1)) H4.o HONE.o hll);have HE:=zab hE;have HG0:=zab hg0;clear hE hg0;go_enter Tryz.func121,Tryz.ntmps121
 go_wp2_with fail
 refine hbn.o.mono ?_;rintro en w1 ⟨tv,rfl,htv,hb1⟩;obtain ⟨ta,tn,tc,rfl⟩:=zae (Row.zaE htv);have hsz1:w.heap.size<w1.heap.size:=by
  have:=hb1.size;have:=HE.o.lt;omega
 have HE1:=zab (HE.o.below hb1 HE.o.lt);have HG1:=zab (zad HG0.o (zaf (some c) hb1));have HC1:=zab ((HC.o.gb (zag _ _ none) (by simp)).below hb1);have HT:Hid (w1.ownsRow w.heap.size 9 1 (.slice ta tn tc) (Th.texts l).length (strCells (Th.texts l))):=zab (by
  refine zaY ?_ (zag w (.cells #[.bool r,.slice sa sn sc,.iface t x] 178) none).size;simpa [Th.texts] using htv)
 have e0:=Blk.cell HE1.o 0;have e1:=Blk.cell HE1.o 1;have e2:=Blk.cell HE1.o 2;simp at e0 e1 e2;clear htv hb1 hbn HC HE HG0;go_wp2_with fail
 have hcc:=zfz (HA.o.gb HG1.o (fun j hj=>by cases hj;exact HI.o.2.2.2)) (Row.zaE HT.o) hal (by simpa [Th.texts] using hll);refine hcc.mono ?_;clear hcc e0 e1 e2;rintro en w2 ⟨ka,kn,kc,rfl,hK,hb2⟩;have HG2:=zab (zad HG1.o (zaf (some c) hb2));have HC2:=zab (HC1.o.below hb2);have HT2:=zab (HT.o.kept (zaf none hb2) (zfu _));have HE2:=zab (HE1.o.below hb2 HE1.o.lt);have HK:=zab hK;have hsz2:=hb2.size;have e0:=Blk.cell HE2.o 0;have e1:=Blk.cell HE2.o 1;have e2:=Blk.cell HE2.o 2;simp at e0 e1 e2;clear hK hb2 HG1 HC1 HT HE1;have hKc:¬ (w1.heap.size<=c):=by omega
 have HSEEN:Hid (∀ (sd:Bool) (q:Value),q=(if sd then .slice ka kn kc else .slice aa an ac)->∃ B:Nat->Prop,Row B w2 9 1 q (if sd then around++Th.texts l else around).length (strCells (if sd then around++Th.texts l else around))/\¬ B c/\∀ (k:Nat) (p:Th.Ex),parts[k]?=some p->∃ lo' hi',Th.In n p lo' hi'/\(if sd then around++Th.texts l else around).length+(hi' - lo')<=1000000):=zab (fun sd q hq=>by
  subst hq;cases sd
  ·refine ⟨A,HA.o.gb HG2.o (fun j hj=>by cases hj;exact HI.o.2.2.2),HI.o.2.2.2,fun k p hp=>?_⟩;obtain ⟨lo',hi',h8,h9⟩:=zgm HI.o.1 k p hp;have:=HL.o.2;exact ⟨lo',hi',h8,by show around.length+(hi' - lo')<=1000000;omega⟩
  ·refine ⟨_,HK.o,hKc,fun k p hp=>?_⟩;obtain ⟨lo',hi',h8,h9⟩:=zgm HI.o.1 k p hp;have:=HL.o.2;exact ⟨lo',hi',h8,by show (around++Th.texts l).length+(hi' - lo')<=1000000;simp[Th.texts];omega⟩)
 have hsn:Hid (sn=l.length):=zab (by
  rcases H5.o.1.2 with ⟨h,h0⟩|⟨_,_,_,h0,_⟩
  ·cases h;exact h0.symm
  ·cases h0;rfl)
 cases r
 ·obtain ⟨B,hB1,hB2,hB3⟩:=HSEEN.o false (.slice aa an ac) rfl;have HB:=zab (And.intro hB1 (And.intro hB2 hB3));clear hB1 hB2 hB3;go_wp2_with fail
  have hsl:=hsn.o;subst hsl
  go_loopg [24] l.length (fun gk i wr=>∃ k:Nat,i=.int .i64 k/\k<=l.length/\l.length-k<=gk/\Chk wr c (after o (Th.zbo (Th.zar n) (if false then around++Th.texts l else around) [] (l.take k) (parts.take k)))/\w2.grownBy wr (some c))
  case atStart=>exact ⟨0,rfl,zx1 _,by omega,by rw[zyN,zyN,show Th.zbo (Th.zar n) (if false then around++Th.texts l else around) [] [] []=[] from rfl,zb0];exact HC2.o,zcR _ _⟩
  case round=>
   obtain ⟨k,rfl,hk,hgk,hch,hg⟩:=hrel;have Hch:=zab hch;have Hg:=zab hg;have hsz:=hg.size;by_cases hlt:k<l.length
   ·obtain ⟨g,hsa⟩:∃ g,sa=some ⟨g,0,none⟩:=by
     rcases hss with h|⟨g,cap,h⟩
     ·have:=(Value.slice.inj h).2.1;omega
     ·exact ⟨g,(Value.slice.inj h).1⟩
    subst hsa;have hT0:=HT2.o;obtain ⟨g2,hta⟩:∃ g2,ta=some ⟨g2,0,none⟩/\tn=l.length:=by
     rcases zan (Row.zaE hT0) with h|⟨g2,cap,h⟩
     ·rcases hT0.2 with ⟨_,h0⟩|⟨_,_,_,h0,_⟩
      ·rw[show (Th.texts l).length=l.length by simp[Th.texts]]at h0;omega
      ·rw[h]at h0;cases h0
     ·cases h;exact ⟨g2,rfl,by simp[Th.texts]⟩
    obtain ⟨rfl,rfl⟩:=hta;obtain ⟨t,ht⟩:∃ t,l[k]?=some t:=⟨l[k],zxI hlt⟩;obtain ⟨p,hp⟩:∃ p,parts[k]?=some p:=⟨_,zxI (by rw[H3.o];exact hlt)⟩;obtain ⟨pv,hpv⟩:∃ pv,pvs[k]?=some pv:=⟨_,zxI (by rw[H4.o];exact hlt)⟩;have hrep:=((H6.o k pv p hpv hp).gb (zad HG2.o hg) (fun j hj=>by cases hj;exact HI.o.2.2.1));obtain ⟨pt,px,rfl⟩:=zah hrep;have hcs:=zbB l pvs k t _ ht hpv;have hrow:=(H5.o.gb (zad HG2.o hg) (fun j hj=>by cases hj;exact HI.o.2.2.1)).1;have c0:=(hrow.cellAt (k*3) (by omega)).trans hcs.1;have c1:=(hrow.cellAt (k*3+1) (by omega)).trans hcs.2.1;have c2:=(hrow.cellAt (k*3+2) (by omega)).trans hcs.2.2;have hgl:=(hrow.lt g rfl).2;have Ht:=zab (zaJ ht);have Hp:=zab (zaJ hp);have hk0:(0:Int)<=(k:Int):=zyJ _;have hcw2:c<w2.heap.size:=by omega
    have hT1:wr.ownsRow w.heap.size 9 1 (.slice (some ⟨g2,0,none⟩) l.length tc) l.length (strCells (Th.texts l)):=by
     have:=hT0.kept hg (zdk hT0 hcl);simpa [Th.texts] using this
    have hcap2:l.length<=tc:=by
     rcases hT1.2 with ⟨h0,_⟩|⟨_,_,_,h0,_,_,hn,_⟩
     ·cases h0
     ·cases h0;exact hn
    have hk1:(k:Int)<=(tc:Int):=by omega
    have hT2:=zg7 hT1 (i:=k) (by omega);rw[zer]at hT2;have HT3:Hid (wr.ownsRow w.heap.size 9 1 (.slice (some ⟨g2,0,none⟩) k tc) (Th.texts (l.take k)).length (strCells (Th.texts (l.take k)))):=zab (by
     rw[show (Th.texts (l.take k)).length=k by simp[Th.texts];omega];exact hT2)
    have CON:=zab (fun (W:World) (hW:Chk W c (after o (Th.zbo (Th.zar n) (if false then around++Th.texts l else around) [] (l.take k) (parts.take k)))) (hR:W.ownsRow w.heap.size 9 1 (.slice (some ⟨g2,0,none⟩) k tc) (Th.texts (l.take k)).length (strCells (Th.texts (l.take k))))=>zgY hW ⟨t.s.toArray⟩ t.at_ hR (by simp[Th.texts];omega));have Hd:Hid (Th.zbo (Th.zar n) (if false then around++Th.texts l else around) [] (l.take (k+1)) (parts.take (k+1))=Th.zbo (Th.zar n) (if false then around++Th.texts l else around) [] (l.take k) (parts.take k)++((if (Th.texts (l.take k)).contains t.s then [t.at_] else [])++Th.zar n p (if false then around++Th.texts l else around))):=zab (by
     rw[Ht.o,Hp.o,zgw _ _ _ _ _ _ _ (by have:=H3.o;simp;omega)];simp)
    have HREP:=zab hrep;have HP:=zab hp;have hcr:Hid (c≠wr.heap.size):=zab (by omega);clear hch hg ht hp hpv hcs hrow hT0 hT1 hT2 hrep e0 e1 e2 hss hsn HSEEN;go_wp2_with fail
    go_region_with (go_at_call 69;refine (CON.o _ ?_ ?_).mono ?_;exact Blk.drew (Blk.alloc Hch.o _);exact (HT3.o.alloc _).drew;rintro e w3 ⟨rfl,h3,hg3⟩;have H3':=zab h3;have HG3:=zab hg3;have p2:w3.cell? ⟨wr.heap.size,2,none⟩=some (.iface pt px):=Blk.cell (Blk.grown (Blk.drew (Blk.new wr [.string ⟨t.s.toArray⟩,.int .i64 t.at_,.iface pt px] 312)) hg3 (by intro h;injection h with h;exact hcr.o h.symm)) 2;clear h3 hg3)
    all_goals
     have HG4:=zab (zad (zad (zad Hg.o (zag _ _ _)) (zbO _ _)) HG3.o);obtain ⟨lo',hi',hin,hbd⟩:=HB.o.2.2 k p HP.o;have HX3:=zab (HX.o w3 c _ _ p _ _ S B m lo' hi' H3'.o (HREP.o.gb (zad (zad (zag _ _ _) (zbO _ _)) HG3.o) (fun j hj=>by cases hj;exact HI.o.2.2.1)) hin (HB.o.1.gb HG4.o (fun j hj=>by cases hj;exact HB.o.2.1)) HI.o.2.2.1 HB.o.2.1 hbd);clear hin hbd;go_wp2_with fail
     refine HX3.o.mono ?_;rintro en w5 ⟨rfl,hc5,hg5⟩;have H5':=zab (And.intro hc5 hg5);clear hc5 hg5 p2;go_wp2_with fail
     go_roundg (l.length-(k+1))
     case measure=>omega
     case rel=>
      refine ⟨k+1,by go_num,by omega,zxJ _,?_,zad HG4.o H5'.o.2⟩;rw[Hd.o,zaP,zaP];exact H5'.o.1
   ·have hk2:k=l.length:=by omega
    have Hk:=zab hk2;have hE3:=HE2.o.grown hg (by intro h;injection h with h;omega);have e3:=Blk.cell hE3 2;simp at e3;clear hch hg hk2 e0 e1 e2 hE3 HSEEN;have HG4:=zab (zad HG2.o Hg.o);have HX3:=zab (HX.o wr c _ _ b _ _ S _ m mid hi Hch.o (H7.o.gb HG4.o (fun j hj=>by cases hj;exact HI.o.2.2.1)) HI.o.2.1 (HK.o.gb Hg.o (fun j hj=>by cases hj;exact hKc)) HI.o.2.2.1 hKc HL.o.1);go_wp2_with fail
    refine HX3.o.mono ?_;rintro en w5 ⟨rfl,hc5,hg5⟩;have H5':=zab (And.intro hc5 hg5);clear hc5 hg5;go_wp2_with fail
    go_end0
    refine ⟨rfl,?_,zad HG4.o H5'.o.2⟩;have ho:=H5'.o.1;rw[Hk.o,zx4 (zxJ _),zx4 (Nat.le_of_eq H3.o)]at ho;rw[zaP];exact ho
 ·obtain ⟨B,hB1,hB2,hB3⟩:=HSEEN.o true (.slice ka kn kc) rfl;have HB:=zab (And.intro hB1 (And.intro hB2 hB3));clear hB1 hB2 hB3;go_wp2_with fail
  have hsl:=hsn.o;subst hsl
  go_loopg [24] l.length (fun gk i wr=>∃ k:Nat,i=.int .i64 k/\k<=l.length/\l.length-k<=gk/\Chk wr c (after o (Th.zbo (Th.zar n) (if true then around++Th.texts l else around) [] (l.take k) (parts.take k)))/\w2.grownBy wr (some c))
  case atStart=>exact ⟨0,rfl,zx1 _,by omega,by rw[zyN,zyN,show Th.zbo (Th.zar n) (if true then around++Th.texts l else around) [] [] []=[] from rfl,zb0];exact HC2.o,zcR _ _⟩
  case round=>
   obtain ⟨k,rfl,hk,hgk,hch,hg⟩:=hrel;have Hch:=zab hch;have Hg:=zab hg;have hsz:=hg.size;by_cases hlt:k<l.length
   ·obtain ⟨g,hsa⟩:∃ g,sa=some ⟨g,0,none⟩:=by
     rcases hss with h|⟨g,cap,h⟩
     ·have:=(Value.slice.inj h).2.1;omega
     ·exact ⟨g,(Value.slice.inj h).1⟩
    subst hsa;have hT0:=HT2.o;obtain ⟨g2,hta⟩:∃ g2,ta=some ⟨g2,0,none⟩/\tn=l.length:=by
     rcases zan (Row.zaE hT0) with h|⟨g2,cap,h⟩
     ·rcases hT0.2 with ⟨_,h0⟩|⟨_,_,_,h0,_⟩
      ·rw[show (Th.texts l).length=l.length by simp[Th.texts]]at h0;omega
      ·rw[h]at h0;cases h0
     ·cases h;exact ⟨g2,rfl,by simp[Th.texts]⟩
    obtain ⟨rfl,rfl⟩:=hta;obtain ⟨t,ht⟩:∃ t,l[k]?=some t:=⟨l[k],zxI hlt⟩;obtain ⟨p,hp⟩:∃ p,parts[k]?=some p:=⟨_,zxI (by rw[H3.o];exact hlt)⟩;obtain ⟨pv,hpv⟩:∃ pv,pvs[k]?=some pv:=⟨_,zxI (by rw[H4.o];exact hlt)⟩;have hrep:=((H6.o k pv p hpv hp).gb (zad HG2.o hg) (fun j hj=>by cases hj;exact HI.o.2.2.1));obtain ⟨pt,px,rfl⟩:=zah hrep;have hcs:=zbB l pvs k t _ ht hpv;have hrow:=(H5.o.gb (zad HG2.o hg) (fun j hj=>by cases hj;exact HI.o.2.2.1)).1;have c0:=(hrow.cellAt (k*3) (by omega)).trans hcs.1;have c1:=(hrow.cellAt (k*3+1) (by omega)).trans hcs.2.1;have c2:=(hrow.cellAt (k*3+2) (by omega)).trans hcs.2.2;have hgl:=(hrow.lt g rfl).2;have Ht:=zab (zaJ ht);have Hp:=zab (zaJ hp);have hk0:(0:Int)<=(k:Int):=zyJ _;have hcw2:c<w2.heap.size:=by omega
    have hT1:wr.ownsRow w.heap.size 9 1 (.slice (some ⟨g2,0,none⟩) l.length tc) l.length (strCells (Th.texts l)):=by
     have:=hT0.kept hg (zdk hT0 hcl);simpa [Th.texts] using this
    have hcap2:l.length<=tc:=by
     rcases hT1.2 with ⟨h0,_⟩|⟨_,_,_,h0,_,_,hn,_⟩
     ·cases h0
     ·cases h0;exact hn
    have hk1:(k:Int)<=(tc:Int):=by omega
    have hT2:=zg7 hT1 (i:=k) (by omega);rw[zer]at hT2;have HT3:Hid (wr.ownsRow w.heap.size 9 1 (.slice (some ⟨g2,0,none⟩) k tc) (Th.texts (l.take k)).length (strCells (Th.texts (l.take k)))):=zab (by
     rw[show (Th.texts (l.take k)).length=k by simp[Th.texts];omega];exact hT2)
    have CON:=zab (fun (W:World) (hW:Chk W c (after o (Th.zbo (Th.zar n) (if true then around++Th.texts l else around) [] (l.take k) (parts.take k)))) (hR:W.ownsRow w.heap.size 9 1 (.slice (some ⟨g2,0,none⟩) k tc) (Th.texts (l.take k)).length (strCells (Th.texts (l.take k))))=>zgY hW ⟨t.s.toArray⟩ t.at_ hR (by simp[Th.texts];omega));have Hd:Hid (Th.zbo (Th.zar n) (if true then around++Th.texts l else around) [] (l.take (k+1)) (parts.take (k+1))=Th.zbo (Th.zar n) (if true then around++Th.texts l else around) [] (l.take k) (parts.take k)++((if (Th.texts (l.take k)).contains t.s then [t.at_] else [])++Th.zar n p (if true then around++Th.texts l else around))):=zab (by
     rw[Ht.o,Hp.o,zgw _ _ _ _ _ _ _ (by have:=H3.o;simp;omega)];simp)
    have HREP:=zab hrep;have HP:=zab hp;have hcr:Hid (c≠wr.heap.size):=zab (by omega);clear hch hg ht hp hpv hcs hrow hT0 hT1 hT2 hrep e0 e1 e2 hss hsn HSEEN;go_wp2_with fail
    go_region_with (go_at_call 69;refine (CON.o _ ?_ ?_).mono ?_;exact Blk.drew (Blk.alloc Hch.o _);exact (HT3.o.alloc _).drew;rintro e w3 ⟨rfl,h3,hg3⟩;have H3':=zab h3;have HG3:=zab hg3;have p2:w3.cell? ⟨wr.heap.size,2,none⟩=some (.iface pt px):=Blk.cell (Blk.grown (Blk.drew (Blk.new wr [.string ⟨t.s.toArray⟩,.int .i64 t.at_,.iface pt px] 312)) hg3 (by intro h;injection h with h;exact hcr.o h.symm)) 2;clear h3 hg3)
    all_goals
     have HG4:=zab (zad (zad (zad Hg.o (zag _ _ _)) (zbO _ _)) HG3.o);obtain ⟨lo',hi',hin,hbd⟩:=HB.o.2.2 k p HP.o;have HX3:=zab (HX.o w3 c _ _ p _ _ S B m lo' hi' H3'.o (HREP.o.gb (zad (zad (zag _ _ _) (zbO _ _)) HG3.o) (fun j hj=>by cases hj;exact HI.o.2.2.1)) hin (HB.o.1.gb HG4.o (fun j hj=>by cases hj;exact HB.o.2.1)) HI.o.2.2.1 HB.o.2.1 hbd);clear hin hbd;go_wp2_with fail
     refine HX3.o.mono ?_;rintro en w5 ⟨rfl,hc5,hg5⟩;have H5':=zab (And.intro hc5 hg5);clear hc5 hg5 p2;go_wp2_with fail
     go_roundg (l.length-(k+1))
     case measure=>omega
     case rel=>
      refine ⟨k+1,by go_num,by omega,zxJ _,?_,zad HG4.o H5'.o.2⟩;rw[Hd.o,zaP,zaP];exact H5'.o.1
   ·have hk2:k=l.length:=by omega
    have Hk:=zab hk2;have hE3:=HE2.o.grown hg (by intro h;injection h with h;omega);have e3:=Blk.cell hE3 2;simp at e3;clear hch hg hk2 e0 e1 e2 hE3 HSEEN;have HG4:=zab (zad HG2.o Hg.o);have HX3:=zab (HX.o wr c _ _ b _ _ S _ m mid hi Hch.o (H7.o.gb HG4.o (fun j hj=>by cases hj;exact HI.o.2.2.1)) HI.o.2.1 (HK.o.gb Hg.o (fun j hj=>by cases hj;exact hKc)) HI.o.2.2.1 hKc HL.o.1);go_wp2_with fail
    refine HX3.o.mono ?_;rintro en w5 ⟨rfl,hc5,hg5⟩;have H5':=zab (And.intro hc5 hg5);clear hc5 hg5;go_wp2_with fail
    go_end0
    refine ⟨rfl,?_,zad HG4.o H5'.o.2⟩;have ho:=H5'.o.1;rw[Hk.o,zx4 (zxJ _),zx4 (Nat.le_of_eq H3.o)]at ho;rw[zaP];exact ho
end Go.Proofs.YtgahgkddaljmkaaGreatDoor
namespace Go.Proofs.YtgahgkddaljmkaaGreatDoor
open Go.RowKit
variable {n:Nat}
variable {e:Th.Ex}
theorem zmg(h:e.kind=1\/e.kind=3)(ar:List (List UInt8)):Th.zar (n+1) e ar=[]:=by
 rcases h with h|h <;> simp[Th.zar,h]
theorem zsr(h:e.kind=2)(ar:List (List UInt8)):Th.zar (n+1) e ar=if ar.contains e.tok.s then [] else [e.tok.at_]:=by simp[Th.zar,h]
variable {e1 e2:Th.Ex}
theorem zqt(h:e.kind=5\/e.kind=6)(hk:e.kids=[e1,e2])(ar:List (List UInt8)):Th.zar (n+1) e ar=Th.zar n e1 ar++Th.zar n e2 ar:=by
 rcases h with h|h <;> simp[Th.zar,h,hk]
variable {b:Th.Ex}
theorem ztp(h:e.kind=4)(hk:e.kids=[b])(ar:List (List UInt8)):Th.zar (n+1) e ar=Th.zjd [] e.names++Th.zar n b (ar++Th.texts e.names):=by simp[Th.zar,h,hk]
theorem ztm{ps:List Th.Ex}(h:e.kind=7\/e.kind=8)(hk:e.kids=b::ps)(ar:List (List UInt8)):Th.zar (n+1) e ar=Th.zbo (Th.zar n) (if (e.kind == 8) then ar++Th.texts e.names else ar) [] e.names ps++Th.zar n b (ar++Th.texts e.names):=by
 rcases h with h|h <;> simp[Th.zar,h,hk]
theorem zpb{ps:List Th.Ex}(h:e.kind=9)(hk:e.kids=b::ps)(ar:List (List UInt8)):Th.zar (n+1) e ar=Th.zar n b ar++Th.zeC (Th.zar n) ar e.zao ps:=by simp[Th.zar,h,hk]
theorem zlQ(x:Value)(w:World):(Instr.typeAssert (.iface 217 x) 91 215 true).run Tryz.prog w=.ok (.tuple #[.agg #[.string ⟨#[]⟩,.int .i64 0],.bool false]) w:=by kernel_rfl
theorem zkL(x:Value)(w:World):(Instr.typeAssert (.iface 217 x) 91 163 true).run Tryz.prog w=.ok (.tuple #[.agg #[.nilIface,.nilIface],.bool false]) w:=by kernel_rfl
theorem zgt(x:Value)(w:World):(Instr.typeAssert (.iface 217 x) 91 166 true).run Tryz.prog w=.ok (.tuple #[.agg #[.string ⟨#[]⟩,.nilIface,.nilIface],.bool false]) w:=by kernel_rfl
theorem zmW(x:Value)(w:World):(Instr.typeAssert (.iface 217 x) 91 178 true).run Tryz.prog w=.ok (.tuple #[.agg #[.bool false,.slice none 0 0,.nilIface],.bool false]) w:=by kernel_rfl
theorem zkU(x:Value)(w:World):(Instr.typeAssert (.iface 217 x) 91 173 true).run Tryz.prog w=.ok (.tuple #[.agg #[.nilIface,.slice none 0 0],.bool false]) w:=by kernel_rfl
theorem zir(x:Value)(w:World):(Instr.typeAssert (.iface 217 x) 91 226 true).run Tryz.prog w=.ok (.tuple #[.agg #[.slice none 0 0,.nilIface],.bool false]) w:=by kernel_rfl
theorem zn9(x:Value)(w:World):(Instr.typeAssert (.iface 219 x) 91 215 true).run Tryz.prog w=.ok (.tuple #[.agg #[.string ⟨#[]⟩,.int .i64 0],.bool false]) w:=by kernel_rfl
theorem zmt(x:Value)(w:World):(Instr.typeAssert (.iface 219 x) 91 163 true).run Tryz.prog w=.ok (.tuple #[.agg #[.nilIface,.nilIface],.bool false]) w:=by kernel_rfl
theorem zhl(x:Value)(w:World):(Instr.typeAssert (.iface 219 x) 91 166 true).run Tryz.prog w=.ok (.tuple #[.agg #[.string ⟨#[]⟩,.nilIface,.nilIface],.bool false]) w:=by kernel_rfl
theorem znJ(x:Value)(w:World):(Instr.typeAssert (.iface 219 x) 91 178 true).run Tryz.prog w=.ok (.tuple #[.agg #[.bool false,.slice none 0 0,.nilIface],.bool false]) w:=by kernel_rfl
theorem zmV(x:Value)(w:World):(Instr.typeAssert (.iface 219 x) 91 173 true).run Tryz.prog w=.ok (.tuple #[.agg #[.nilIface,.slice none 0 0],.bool false]) w:=by kernel_rfl
theorem zjA(x:Value)(w:World):(Instr.typeAssert (.iface 219 x) 91 226 true).run Tryz.prog w=.ok (.tuple #[.agg #[.slice none 0 0,.nilIface],.bool false]) w:=by kernel_rfl
theorem zq0(x:Value)(w:World):(Instr.typeAssert (.iface 215 x) 91 215 true).run Tryz.prog w=.ok (.tuple #[x,.bool true]) w:=by kernel_rfl
theorem zo8(x:Value)(w:World):(Instr.typeAssert (.iface 163 x) 91 215 true).run Tryz.prog w=.ok (.tuple #[.agg #[.string ⟨#[]⟩,.int .i64 0],.bool false]) w:=by kernel_rfl
theorem zoz(x:Value)(w:World):(Instr.typeAssert (.iface 163 x) 91 163 true).run Tryz.prog w=.ok (.tuple #[x,.bool true]) w:=by kernel_rfl
theorem ziv(x:Value)(w:World):(Instr.typeAssert (.iface 166 x) 91 215 true).run Tryz.prog w=.ok (.tuple #[.agg #[.string ⟨#[]⟩,.int .i64 0],.bool false]) w:=by kernel_rfl
theorem zhR(x:Value)(w:World):(Instr.typeAssert (.iface 166 x) 91 163 true).run Tryz.prog w=.ok (.tuple #[.agg #[.nilIface,.nilIface],.bool false]) w:=by kernel_rfl
theorem zct(x:Value)(w:World):(Instr.typeAssert (.iface 166 x) 91 166 true).run Tryz.prog w=.ok (.tuple #[x,.bool true]) w:=by kernel_rfl
theorem zrg(x:Value)(w:World):(Instr.typeAssert (.iface 178 x) 91 215 true).run Tryz.prog w=.ok (.tuple #[.agg #[.string ⟨#[]⟩,.int .i64 0],.bool false]) w:=by kernel_rfl
theorem zpQ(x:Value)(w:World):(Instr.typeAssert (.iface 178 x) 91 163 true).run Tryz.prog w=.ok (.tuple #[.agg #[.nilIface,.nilIface],.bool false]) w:=by kernel_rfl
theorem ziw(x:Value)(w:World):(Instr.typeAssert (.iface 178 x) 91 166 true).run Tryz.prog w=.ok (.tuple #[.agg #[.string ⟨#[]⟩,.nilIface,.nilIface],.bool false]) w:=by kernel_rfl
theorem zrn(x:Value)(w:World):(Instr.typeAssert (.iface 178 x) 91 178 true).run Tryz.prog w=.ok (.tuple #[x,.bool true]) w:=by kernel_rfl
theorem zpf(x:Value)(w:World):(Instr.typeAssert (.iface 173 x) 91 215 true).run Tryz.prog w=.ok (.tuple #[.agg #[.string ⟨#[]⟩,.int .i64 0],.bool false]) w:=by kernel_rfl
theorem znh(x:Value)(w:World):(Instr.typeAssert (.iface 173 x) 91 163 true).run Tryz.prog w=.ok (.tuple #[.agg #[.nilIface,.nilIface],.bool false]) w:=by kernel_rfl
theorem zhE(x:Value)(w:World):(Instr.typeAssert (.iface 173 x) 91 166 true).run Tryz.prog w=.ok (.tuple #[.agg #[.string ⟨#[]⟩,.nilIface,.nilIface],.bool false]) w:=by kernel_rfl
theorem zpm(x:Value)(w:World):(Instr.typeAssert (.iface 173 x) 91 178 true).run Tryz.prog w=.ok (.tuple #[.agg #[.bool false,.slice none 0 0,.nilIface],.bool false]) w:=by kernel_rfl
theorem znB(x:Value)(w:World):(Instr.typeAssert (.iface 173 x) 91 173 true).run Tryz.prog w=.ok (.tuple #[x,.bool true]) w:=by kernel_rfl
theorem zmw(x:Value)(w:World):(Instr.typeAssert (.iface 226 x) 91 215 true).run Tryz.prog w=.ok (.tuple #[.agg #[.string ⟨#[]⟩,.int .i64 0],.bool false]) w:=by kernel_rfl
theorem zku(x:Value)(w:World):(Instr.typeAssert (.iface 226 x) 91 163 true).run Tryz.prog w=.ok (.tuple #[.agg #[.nilIface,.nilIface],.bool false]) w:=by kernel_rfl
theorem zgb(x:Value)(w:World):(Instr.typeAssert (.iface 226 x) 91 166 true).run Tryz.prog w=.ok (.tuple #[.agg #[.string ⟨#[]⟩,.nilIface,.nilIface],.bool false]) w:=by kernel_rfl
theorem zl9(x:Value)(w:World):(Instr.typeAssert (.iface 226 x) 91 178 true).run Tryz.prog w=.ok (.tuple #[.agg #[.bool false,.slice none 0 0,.nilIface],.bool false]) w:=by kernel_rfl
theorem zkv(x:Value)(w:World):(Instr.typeAssert (.iface 226 x) 91 173 true).run Tryz.prog w=.ok (.tuple #[.agg #[.nilIface,.slice none 0 0],.bool false]) w:=by kernel_rfl
theorem zij(x:Value)(w:World):(Instr.typeAssert (.iface 226 x) 91 226 true).run Tryz.prog w=.ok (.tuple #[x,.bool true]) w:=by kernel_rfl
variable {w:World}
variable {c:Nat}
variable {o:Option Nat}
variable {av:Value}
variable {around:List (List UInt8)}
variable {A:Nat->Prop}
theorem zns(hc:Chk w c o)(ha:Row A w 9 1 av around.length (strCells around)){v:Value}(hv:(∃ n:Int,v=.iface 217 (.agg #[.int .i64 n]))\/∃ a b:Int,v=.iface 219 (.agg #[.int .i64 a,.int .i64 b])):
  Calls Tryz.prog 71 #[.pointer (some ⟨c,0,none⟩),v,av] w fun en w'=>en=.returned (.tuple #[])/\Chk w' c o/\w.grownBy w' (some c):=by
 obtain ⟨aa,an,ac,rfl⟩:=zae ha;have HC:=zab hc;clear hc ha;rcases hv with ⟨n,rfl⟩|⟨a,b,rfl⟩
 ·have h1:=zlQ;have h2:=zkL;have h3:=zgt;have h4:=zmW;have h5:=zkU;have h6:=zir;go_enter Tryz.func71,Tryz.ntmps71
  go_wp2_with fail
  go_end0
  exact ⟨rfl,HC.o,zcR _ _⟩
 ·have h1:=zn9;have h2:=zmt;have h3:=zhl;have h4:=znJ;have h5:=zmV;have h6:=zjA;go_enter Tryz.func71,Tryz.ntmps71
  go_wp2_with fail
  go_end0
  exact ⟨rfl,HC.o,zcR _ _⟩
theorem zvN(hc:Chk w c o)(ha:Row A w 9 1 av around.length (strCells around))(hl:around.length<=1000000)(s:ByteArray)(p:Nat):
  Calls Tryz.prog 71 #[.pointer (some ⟨c,0,none⟩),.iface 215 (.agg #[.string s,.int .i64 p]),av] w fun en w'=>en=.returned (.tuple #[])/\Chk w' c (after o (if around.contains s.data.toList then [] else [p]))/\w.grownBy w' (some c):=by
 obtain ⟨aa,an,ac,rfl⟩:=zae ha;have HC:=zab hc;have HA:=zab ha;clear hc ha;have h1:=zq0;cases hcn:around.contains s.data.toList
 ·have HCN:=zab hcn;clear hcn;go_enter Tryz.func71,Tryz.ntmps71
  go_wp2_with fail
  refine (zcI (HA.o.1.alloc _) hl s).mono ?_;rintro e w1 ⟨rfl,rfl⟩;rw[HCN.o];go_wp2_with fail
  refine (zob (Blk.alloc HC.o _) s p).mono ?_;rintro e w2 ⟨rfl,h2,hg2⟩;have H2:=zab (And.intro h2 (zad (zag _ _ _) hg2));clear h2 hg2;go_wp2_with fail
  go_end0
  exact ⟨rfl,H2.o.1,H2.o.2⟩
 ·have HCN:=zab hcn;clear hcn;go_enter Tryz.func71,Tryz.ntmps71
  go_wp2_with fail
  refine (zcI (HA.o.1.alloc _) hl s).mono ?_;rintro e w1 ⟨rfl,rfl⟩;rw[HCN.o];go_wp2_with fail
  go_end0
  refine ⟨rfl,?_,zag _ _ _⟩;rw[zb0];exact Blk.alloc HC.o _
variable {S:Nat->Prop}
variable {m lo mid hi:Nat}
theorem ztP(hx:zvY n){v1 v2:Value}(hc:Chk w c o)(hr1:Rep S w m v1 e1)(hr2:Rep S w m v2 e2)(h1:Th.In n e1 lo mid)(h2:Th.In n e2 mid hi)(ha:Row A w 9 1 av around.length (strCells around))(hS:¬ S c)(hA:¬ A c)(hb:around.length+(hi-lo)<=1000000):
  Calls Tryz.prog 71 #[.pointer (some ⟨c,0,none⟩),.iface 163 (.agg #[ v1,v2]),av] w fun en w'=>en=.returned (.tuple #[])/\Chk w' c (after o (Th.zar n e1 around++Th.zar n e2 around))/\w.grownBy w' (some c):=by
 obtain ⟨aa,an,ac,rfl⟩:=zae ha;obtain ⟨t1,x1,rfl⟩:=zah hr1;obtain ⟨t2,x2,rfl⟩:=zah hr2;have hl1:=h1.le;have hl2:=h2.le;have hcl:=hc.lt;have g1:=zo8;have g2:=zoz;have g3:=zct;have hg0:=zag w (.cells #[ .iface t1 x1,.iface t2 x2] 163) (some c);have hE:=Blk.new w [ .iface t1 x1,.iface t2 x2] 163;have CON1:=zab (hx _ c o _ e1 _ around S A m lo mid (hc.gb (zag w (.cells #[ .iface t1 x1,.iface t2 x2] 163) none) (by simp)) (hr1.gb hg0 (fun j hj=>by cases hj;exact hS)) h1 (ha.gb hg0 (fun j hj=>by cases hj;exact hA)) hS hA (by omega));have CON2:=zab (fun (W:World) (o':Option Nat) (hW:Chk W c o') (hg:w.grownBy W (some c))=>hx W c o' _ e2 _ around S A m mid hi hW (hr2.gb hg (fun j hj=>by cases hj;exact hS)) h2 (ha.gb hg (fun j hj=>by cases hj;exact hA)) hS hA (by omega));have HG0:=zab hg0;have HE:=zab hE;clear hc hr1 hr2 h1 h2 ha hS hA hx hl1 hl2 hb hg0 hE;go_enter Tryz.func71,Tryz.ntmps71
 go_wp2_with fail
 refine CON1.o.mono ?_;rintro en w1 ⟨rfl,hc1,hg1⟩;have e1':=Blk.cell (Blk.grown HE.o hg1 (by intro h;injection h with h;omega)) 1;simp at e1';have CON3:=zab (CON2.o w1 _ hc1 (zad HG0.o hg1));have HG1:=zab (zad HG0.o hg1);clear hc1 hg1 CON1 CON2;go_wp2_with fail
 refine CON3.o.mono ?_;rintro en w2 ⟨rfl,hc2,hg2⟩;have H2:=zab (And.intro hc2 hg2);clear hc2 hg2;go_wp2_with fail
 go_end0
 exact ⟨rfl,by rw[zaP];exact H2.o.1,zad HG1.o H2.o.2⟩
theorem zwB(hx:zvY n){v1 v2:Value}(s:ByteArray)(hc:Chk w c o)(hr1:Rep S w m v1 e1)(hr2:Rep S w m v2 e2)(h1:Th.In n e1 lo mid)(h2:Th.In n e2 mid hi)(ha:Row A w 9 1 av around.length (strCells around))(hS:¬ S c)(hA:¬ A c)(hb:around.length+(hi-lo)<=1000000):
  Calls Tryz.prog 71 #[.pointer (some ⟨c,0,none⟩),.iface 166 (.agg #[.string s ,v1,v2]),av] w fun en w'=>en=.returned (.tuple #[])/\Chk w' c (after o (Th.zar n e1 around++Th.zar n e2 around))/\w.grownBy w' (some c):=by
 obtain ⟨aa,an,ac,rfl⟩:=zae ha;obtain ⟨t1,x1,rfl⟩:=zah hr1;obtain ⟨t2,x2,rfl⟩:=zah hr2;have hl1:=h1.le;have hl2:=h2.le;have hcl:=hc.lt;have g1:=ziv;have g2:=zhR;have g3:=zct;have hg0:=zag w (.cells #[.string s ,.iface t1 x1,.iface t2 x2] 166) (some c);have hE:=Blk.new w [.string s ,.iface t1 x1,.iface t2 x2] 166;have CON1:=zab (hx _ c o _ e1 _ around S A m lo mid (hc.gb (zag w (.cells #[.string s ,.iface t1 x1,.iface t2 x2] 166) none) (by simp)) (hr1.gb hg0 (fun j hj=>by cases hj;exact hS)) h1 (ha.gb hg0 (fun j hj=>by cases hj;exact hA)) hS hA (by omega));have CON2:=zab (fun (W:World) (o':Option Nat) (hW:Chk W c o') (hg:w.grownBy W (some c))=>hx W c o' _ e2 _ around S A m mid hi hW (hr2.gb hg (fun j hj=>by cases hj;exact hS)) h2 (ha.gb hg (fun j hj=>by cases hj;exact hA)) hS hA (by omega));have HG0:=zab hg0;have HE:=zab hE;clear hc hr1 hr2 h1 h2 ha hS hA hx hl1 hl2 hb hg0 hE;go_enter Tryz.func71,Tryz.ntmps71
 go_wp2_with fail
 refine CON1.o.mono ?_;rintro en w1 ⟨rfl,hc1,hg1⟩;have e1':=Blk.cell (Blk.grown HE.o hg1 (by intro h;injection h with h;omega)) 2;simp at e1';have CON3:=zab (CON2.o w1 _ hc1 (zad HG0.o hg1));have HG1:=zab (zad HG0.o hg1);clear hc1 hg1 CON1 CON2;go_wp2_with fail
 refine CON3.o.mono ?_;rintro en w2 ⟨rfl,hc2,hg2⟩;have H2:=zab (And.intro hc2 hg2);clear hc2 hg2;go_wp2_with fail
 go_end0
 exact ⟨rfl,by rw[zaP];exact H2.o.1,zad HG1.o H2.o.2⟩
end Go.Proofs.YtgahgkddaljmkaaGreatDoor
namespace Go.Proofs.YtgahgkddaljmkaaGreatDoor
open Go.RowKit
attribute [local go_sem ↓] Go.wp_at_zero Go.wp_at_succ
variable {n:Nat}
variable {w:World}
variable {c:Nat}
variable {o:Option Nat}
variable {av:Value}
variable {l:List Th.Tok}
variable {e:Th.Ex}
variable {around:List (List UInt8)}
variable {S A:Nat->Prop}
variable {m lo mid hi:Nat}
theorem zuz(hx:zvY n){nv v:Value}(hc:Chk w c o)(hn:Row S w 88 2 nv l.length (zaj l))(hr:Rep S w m v e)(h1:Th.zcx lo mid l)(h2:Th.In n e mid hi)(ha:Row A w 9 1 av around.length (strCells around))(hS:¬ S c)(hA:¬ A c)(hb:around.length+(hi-lo)<=1000000):
  Calls Tryz.prog 71 #[.pointer (some ⟨c,0,none⟩),.iface 226 (.agg #[nv,v]),av] w fun en w'=>en=.returned (.tuple #[])/\Chk w' c (after o (Th.zjd [] l++Th.zar n e (around++Th.texts l)))/\w.grownBy w' (some c):=by
 obtain ⟨aa,an,ac,rfl⟩:=zae ha;obtain ⟨na,nn,nc,rfl⟩:=zae hn;obtain ⟨t,x,rfl⟩:=zah hr;have g1:=zmw;have g2:=zku;have g3:=zgb;have g4:=zl9;have g5:=zkv;have g6:=zij;have hg0:=zag w (.cells #[.slice na nn nc,.iface t x] 226) (some c);have CON:=zab (zk9 hx (hc.gb (zag w (.cells #[.slice na nn nc,.iface t x] 226) none) (by simp)) (hn.gb hg0 (fun j hj=>by cases hj;exact hS)) (hr.gb hg0 (fun j hj=>by cases hj;exact hS)) h1 h2 (ha.gb hg0 (fun j hj=>by cases hj;exact hA)) hS hA hb);have HG0:=zab hg0;clear hc hn hr h1 h2 ha hS hA hx hb hg0;go_enter Tryz.func71,Tryz.ntmps71
 go_wp2_with fail
 refine CON.o.mono ?_;rintro en w2 ⟨rfl,hc2,hg2⟩;have H2:=zab (And.intro hc2 hg2);clear hc2 hg2;go_wp2_with fail
 go_end0
 exact ⟨rfl,H2.o.1,zad HG0.o H2.o.2⟩
variable {sv:Value}
variable {b:Th.Ex}
theorem zur(hx:zvY n){r:Bool}{bv:Value}{parts:List Th.Ex}{pvs:List Value}(hc:Chk w c o)(h3:parts.length=l.length)(h4:pvs.length=l.length)(h5:Row S w 312 3 sv l.length (zaM l pvs))(h6:∀ (i:Nat) (pv:Value) (p:Th.Ex),pvs[i]?=some pv->parts[i]?=some p->Rep S w m pv p)(h7:Rep S w m bv b)(h1:Th.zbc (Th.In n) lo mid l parts)(h2:Th.In n b mid hi)(ha:Row A w 9 1 av around.length (strCells around))(hS:¬ S c)(hA:¬ A c)(hb:around.length+(hi-lo)<=1000000):
  Calls Tryz.prog 71 #[.pointer (some ⟨c,0,none⟩),.iface 178 (.agg #[.bool r,sv,bv]),av] w fun en w'=>en=.returned (.tuple #[])/\Chk w' c (after o (Th.zbo (Th.zar n) (if r then around++Th.texts l else around) [] l parts++Th.zar n b (around++Th.texts l)))/\w.grownBy w' (some c):=by
 obtain ⟨aa,an,ac,rfl⟩:=zae ha;obtain ⟨na,nn,nc,rfl⟩:=zae h5;obtain ⟨t,x,rfl⟩:=zah h7;have g1:=zrg;have g2:=zpQ;have g3:=ziw;have g4:=zrn;have hg0:=zag w (.cells #[.bool r,.slice na nn nc,.iface t x] 178) (some c);have CON:=zab (zw0 (r:=r) hx (hc.gb (zag w (.cells #[.bool r,.slice na nn nc,.iface t x] 178) none) (by simp)) h3 h4 (h5.gb hg0 (fun j hj=>by cases hj;exact hS)) (fun i pv p hp hq=>(h6 i pv p hp hq).gb hg0 (fun j hj=>by cases hj;exact hS)) (h7.gb hg0 (fun j hj=>by cases hj;exact hS)) h1 h2 (ha.gb hg0 (fun j hj=>by cases hj;exact hA)) hS hA hb);have HG0:=zab hg0;clear hc h3 h4 h5 h6 h7 h1 h2 ha hS hA hx hb hg0;generalize (Th.zbo (Th.zar n) (if r then around++Th.texts l else around) [] l parts++Th.zar n b (around++Th.texts l))=L at CON ⊢;go_enter Tryz.func71,Tryz.ntmps71
 go_wp2_with fail
 refine CON.o.mono ?_;rintro en w2 ⟨rfl,hc2,hg2⟩;have H2:=zab (And.intro hc2 hg2);clear hc2 hg2;go_wp2_with fail
 go_end0
 exact ⟨rfl,H2.o.1,zad HG0.o H2.o.2⟩
theorem zll(wr:Th.Ex->List (List UInt8)->List Nat)(ar:List (List UInt8)):∀ (l:List (Nat × List Th.Tok)) (es:List Th.Ex) (a:Nat × List Th.Tok) (e:Th.Ex),l.length=es.length ->
  Th.zeC wr ar (l++[a]) (es++[e])=Th.zeC wr ar l es++(Th.zjd [] a.2++wr e (ar++Th.texts a.2))
 |[],[],a,e,_=>by simp[Th.zeC]
 |x::l,y::es,a,e,h=>by
  simp only[zx5,Th.zeC];rw[zll wr ar l es a e (by simpa using h)];simp
 |[],_::_,_,_,h=>by simp at h
 |_::_,[],_,_,h=>by simp at h
theorem zk3{n:Nat}:∀ {lo hi:Nat} {l:List (Nat × List Th.Tok)} {es:List Th.Ex},Th.zce (Th.In n) lo hi l es->∀ (k:Nat) (a:Nat × List Th.Tok) (p:Th.Ex),l[k]?=some a->es[k]?=some p->∃ lo' m' hi',Th.zcx lo' m' a.2/\Th.In n p m' hi'/\hi' - lo'<=hi-lo
 |lo,hi,[],[],_,k,a,p,ha,hp=>by simp at hp
 |lo,hi,t::r,e::es,h,0,a,p,ha,hp=>by
  obtain ⟨m1,m2,h1,h2,h3⟩:=h;simp only[zyh,zxL]at ha hp;subst ha hp;have:=Th.zce.len h3;have:=Th.In.le h2;exact ⟨_,_,_,h1,h2,by omega⟩
 |lo,hi,t::r,e::es,h,k+1,a,p,ha,hp=>by
  obtain ⟨m1,m2,h1,h2,h3⟩:=h;have:=Th.zce.len h3;have:=Th.In.le h2;have:=Th.zcx.len h1;obtain ⟨lo',m',hi',h4,h5,h6⟩:=zk3 h3 k a p (by simpa using ha) (by simpa using hp);exact ⟨lo',m',hi',h4,h5,by omega⟩
 |_,_,[],_::_,h,_,_,_,_,_=>h.elim
 |_,_,_::_,[],h,_,_,_,_,_=>h.elim
theorem ztG(hx:zvY n){cv:Value}{zao:List (Nat × List Th.Tok)}{bodies:List Th.Ex}{nvs bvs:List Value}(hc:Chk w c o)(h3:bodies.length=zao.length)(h4:nvs.length=zao.length)(h5:bvs.length=zao.length)(h6:Row S w 240 3 sv zao.length (za7 zao nvs bvs))(h7:∀ (i:Nat) (a:Nat × List Th.Tok) (nv:Value),zao[i]?=some a->nvs[i]?=some nv->Row S w 88 2 nv a.2.length (zaj a.2))(h8:∀ (i:Nat) (bv:Value) (p:Th.Ex),bvs[i]?=some bv->bodies[i]?=some p->Rep S w m bv p)(h9:Rep S w m cv b)(h1:Th.In n b lo mid)(h2:Th.zce (Th.In n) mid hi zao bodies)(ha:Row A w 9 1 av around.length (strCells around))(hS:¬ S c)(hA:¬ A c)(hb:around.length+(hi-lo)<=1000000):
  Calls Tryz.prog 71 #[.pointer (some ⟨c,0,none⟩),.iface 173 (.agg #[cv,sv]),av] w fun en w'=>en=.returned (.tuple #[])/\Chk w' c (after o (Th.zar n b around++Th.zeC (Th.zar n) around zao bodies))/\w.grownBy w' (some c):=by
 have hl1:=h1.le;have hl2:=h2.len;have hal:zao.length<=1000000:=by omega
 have hcl:=hc.lt;obtain ⟨aa,an,ac,rfl⟩:=zae ha;have hss:=zan h6;obtain ⟨sa,sn,sc,rfl⟩:=zae h6;obtain ⟨t,x,rfl⟩:=zah h9;have hsn:Hid (sn=zao.length):=zab (by
  rcases h6.1.2 with ⟨h,h0⟩|⟨_,_,_,h0,_⟩
  ·cases h;exact h0.symm
  ·cases h0;rfl)
 have g1:=zpf;have g2:=znh;have g3:=zhE;have g4:=zpm;have g5:=znB;have hg0:=zag w (.cells #[.iface t x,.slice sa sn sc] 173) (some c);have HE:=zab (Blk.new w [.iface t x,.slice sa sn sc] 173);have CON1:=zab (hx _ c o _ b _ around S A m lo mid (hc.gb (zag w (.cells #[.iface t x,.slice sa sn sc] 173) none) (by simp)) (h9.gb hg0 (fun j hj=>by cases hj;exact hS)) h1 (ha.gb hg0 (fun j hj=>by cases hj;exact hA)) hS hA (by omega));have HG0:=zab hg0;have H3:=zab h3;have H4:=zab h4;have H5:=zab h5;have H6:=zab h6;have H7:=zab h7;have H8:=zab h8;have HA:=zab ha;have HI:=zab (And.intro h2 (And.intro hS hA));have HL:Hid (around.length+(hi-mid)<=1000000):=zab (by omega);have HX:=zab hx;clear hc h3 h4 h5 h6 h7 h8 h9 h1 h2 ha hS hA hx hb hg0 hl1 hl2;go_enter Tryz.func71,Tryz.ntmps71
 go_wp2_with fail
 refine CON1.o.mono ?_;rintro en w1 ⟨rfl,hc1,hg1⟩;have e1:=Blk.cell (Blk.grown HE.o hg1 (by intro h;injection h with h;omega)) 1;simp at e1;have HG1:=zab (zad HG0.o hg1);have HC1:=zab hc1;have hsz:=(zad HG0.o hg1).size;clear hc1 hg1 CON1 HE HG0;go_wp2_with fail
 have hsl:=hsn.o;subst hsl
 go_loopg [72] zao.length (fun gk i wr=>∃ k:Nat,i=.int .i64 k/\k<=zao.length/\zao.length-k<=gk/\Chk wr c (after (after o (Th.zar n b around)) (Th.zeC (Th.zar n) around (zao.take k) (bodies.take k)))/\w1.grownBy wr (some c))
 case atStart=>exact ⟨0,rfl,zx1 _,by omega,by rw[zyN,zyN,show Th.zeC (Th.zar n) around [] []=[] from rfl,zb0];exact HC1.o,zcR _ _⟩
 case round=>
  obtain ⟨k,rfl,hk,hgk,hch,hg⟩:=hrel;have Hch:=zab hch;have Hg:=zab hg;have hsz:=hg.size;by_cases hlt:k<zao.length
  ·obtain ⟨g,hsa⟩:∃ g,sa=some ⟨g,0,none⟩:=by
    rcases hss with h|⟨g,cap,h⟩
    ·have:=(Value.slice.inj h).2.1;omega
    ·exact ⟨g,(Value.slice.inj h).1⟩
   subst hsa;obtain ⟨a,hak⟩:∃ a,zao[k]?=some a:=⟨zao[k],zxI hlt⟩;obtain ⟨p,hp⟩:∃ p,bodies[k]?=some p:=⟨_,zxI (by rw[H3.o];exact hlt)⟩;obtain ⟨nv,hnv⟩:∃ nv,nvs[k]?=some nv:=⟨_,zxI (by rw[H4.o];exact hlt)⟩;obtain ⟨bv,hbv⟩:∃ bv,bvs[k]?=some bv:=⟨_,zxI (by rw[H5.o];exact hlt)⟩;have hgw:=zad HG1.o hg;have hrep:=(H8.o k bv p hbv hp).gb hgw (fun j hj=>by cases hj;exact HI.o.2.1);have hnam:=(H7.o k a nv hak hnv).gb hgw (fun j hj=>by cases hj;exact HI.o.2.1);obtain ⟨pt,px,rfl⟩:=zah hrep;obtain ⟨na,nn,nc,rfl⟩:=zae hnam;have hcs:=zdu zao nvs bvs k a _ _ hak hnv hbv;have hrow:=(H6.o.gb hgw (fun j hj=>by cases hj;exact HI.o.2.1)).1;have c0:=(hrow.cellAt (k*3) (by omega)).trans hcs.1;have c1:=(hrow.cellAt (k*3+1) (by omega)).trans hcs.2.1;have c2:=(hrow.cellAt (k*3+2) (by omega)).trans hcs.2.2;have hgl:=(hrow.lt g rfl).2;obtain ⟨lo',m',hi',hri,hin,hbd⟩:=zk3 HI.o.1 k a p hak hp;have hg5:=zag wr (.cells #[.int .i64 a.1,.slice na nn nc,.iface pt px] 240) (some c);have CON:=zab (zk9 HX.o (hch.gb (zag wr (.cells #[.int .i64 a.1,.slice na nn nc,.iface pt px] 240) none) (by simp)) (hnam.gb hg5 (fun j hj=>by cases hj;exact HI.o.2.1)) (hrep.gb hg5 (fun j hj=>by cases hj;exact HI.o.2.1)) hri hin (HA.o.gb (zad hgw hg5) (fun j hj=>by cases hj;exact HI.o.2.2)) HI.o.2.1 HI.o.2.2 (by have:=HL.o;omega));have HG5:=zab (zad hg hg5);have Ht:=zab (zaJ hak);have Hp:=zab (zaJ hp);have Hd:Hid (Th.zeC (Th.zar n) around (zao.take (k+1)) (bodies.take (k+1))=Th.zeC (Th.zar n) around (zao.take k) (bodies.take k)++(Th.zjd [] a.2++Th.zar n p (around++Th.texts a.2))):=zab (by
    rw[Ht.o,Hp.o,zll _ _ _ _ _ _ (by have:=H3.o;simp;omega)])
   clear hch hg hak hp hnv hbv hgw hrep hnam hcs hrow hri hin hbd hg5 e1 hss hsn;go_wp2_with fail
   refine CON.o.mono ?_;rintro en w5 ⟨rfl,hc5,hg5⟩;have H5':=zab (And.intro hc5 hg5);clear hc5 hg5;go_wp2_with fail
   go_roundg (zao.length-(k+1))
   case measure=>omega
   case rel=>
    refine ⟨k+1,by go_num,by omega,zxJ _,?_,zad HG5.o H5'.o.2⟩;rw[Hd.o,zaP];exact H5'.o.1
  ·have hk2:k=zao.length:=by omega
   have Hk:=zab hk2;clear hch hg hk2;go_wp2_with fail
   go_end0
   refine ⟨rfl,?_,zad HG1.o Hg.o⟩;have ho:=Hch.o;rw[Hk.o,zx4 (zxJ _),zx4 (Nat.le_of_eq H3.o)]at ho;rw[zaP];exact ho
theorem zqk:∀ (n:Nat),zvY n
 |0=>fun _ _ _ _ _ _ _ _ _ _ _ _ _ _ h=>h.elim
 |n+1=>fun w c o v e av around S A m lo hi hc hr hin ha hS hA hb=>by
  have ih:=zqk n;rcases m with _|m
  ·exact hr.elim
  obtain ⟨hle,hin⟩:=hin;rcases hr with ⟨hk,rfl⟩|⟨hk,rfl⟩|⟨hk,rfl⟩|⟨hk,sv,bv,b,h1,rfl,h3,h4⟩|⟨hk,v1,v2,e1,e2,h1,rfl,h3,h4⟩|⟨hk,v1,v2,e1,e2,h1,rfl,h3,h4⟩|⟨hk,sv,bv,b,parts,pvs,h1,rfl,h3,h4,h5,h6,h7⟩|⟨hk,cv,sv,b,bodies,nvs,bvs,h1,rfl,h3,h4,h5,h6,h7,h8,h9⟩
  ·rw[zmg (.inl hk),zb0];exact zns hc ha (.inl ⟨_,rfl⟩)
  ·rw[zsr hk];exact zvN hc ha (by omega) ⟨e.tok.s.toArray⟩ e.tok.at_
  ·rw[zmg (.inr hk),zb0];exact zns hc ha (.inr ⟨_,_,rfl⟩)
  ·rw[ztp hk h1];rcases hin with h|h|⟨_,b',mid,i1,i2,i3⟩|⟨h,_⟩|⟨h,_⟩|⟨h,_⟩
   ·omega
   ·omega
   ·rw[h1]at i1;cases i1;exact zuz ih hc h3 h4 i2 i3 ha hS hA hb
   ·omega
   ·omega
   ·omega
  ·rw[zqt (.inl hk) h1];rcases hin with h|h|⟨h,_⟩|⟨_,a1,a2,mid,i1,i2,i3⟩|⟨h,_⟩|⟨h,_⟩
   ·omega
   ·omega
   ·omega
   ·rw[h1]at i1;cases i1;exact ztP ih hc h3 h4 i2 i3 ha hS hA hb
   ·omega
   ·omega
  ·rw[zqt (.inr hk) h1];rcases hin with h|h|⟨h,_⟩|⟨_,a1,a2,mid,i1,i2,i3⟩|⟨h,_⟩|⟨h,_⟩
   ·omega
   ·omega
   ·omega
   ·rw[h1]at i1;cases i1;exact zwB ih _ hc h3 h4 i2 i3 ha hS hA hb
   ·omega
   ·omega
  ·rw[ztm hk h1];rcases hin with h|h|⟨h,_⟩|⟨h,_⟩|⟨_,b',ps,mid,i1,i2,i3⟩|⟨h,_⟩
   ·omega
   ·omega
   ·omega
   ·omega
   ·rw[h1]at i1;cases i1;exact zur ih hc h3 h4 h5 h6 h7 i2 i3 ha hS hA hb
   ·omega
  ·rw[zpb hk h1];rcases hin with h|h|⟨h,_⟩|⟨h,_⟩|⟨h,_⟩|⟨_,b',ps,mid,i1,i2,i3⟩
   ·omega
   ·omega
   ·omega
   ·omega
   ·omega
   ·rw[h1]at i1;cases i1;exact ztG ih hc h3 h4 h5 h6 h7 h8 h9 i2 i3 ha hS hA hb
end Go.Proofs.YtgahgkddaljmkaaGreatDoor
