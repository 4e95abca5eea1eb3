/- RsP .. Shp3 -/
import Derived.Test.YtgahgkddaljmkaaGreatDoorV22
set_option maxRecDepth 100000
set_option maxHeartbeats 4000000
namespace Go.Proofs.YtgahgkddaljmkaaGreatDoor
open Tryz Th Cp
section
namespace Th
variable {n:Nat}
theorem Rz:∀(n:Nat)(e:Ex),Mk e->Dp n e->Wf n e
 |0,_,_,h=>h.elim
 |n+1,_,.num h,_=>.inl ⟨rfl,h⟩
 |n+1,_,.name _,_=>.inr (.inl rfl)
 |n+1,_,.make _ h2 h3,_=>.inr (.inr (.inl ⟨rfl,h2,h3⟩))
 |n+1,_,.fn h1 _ h3,d=>.inr (.inr (.inr (.inl ⟨rfl,h1,_,rfl,Rz n _ h3 (d.2 _ (by simp[mkFun]))⟩)))
 |n+1,_,.call ha hb,d=>.inr (.inr (.inr (.inr (.inl ⟨rfl,_,_,rfl,Rz n _ ha (d.2 _ (by simp[M5])),Rz n _ hb (d.2 _ (by simp[M5]))⟩))))
 |n+1,_,.op _ h6 ha hb,d=>.inr (.inr (.inr (.inr (.inr (.inl ⟨rfl,h6,_,_,rfl,Rz n _ ha (d.2 _ (by simp[JF])),Rz n _ hb (d.2 _ (by simp[JF]))⟩)))))
 |n+1,_,.lt (r:=r) h1 h2 _ h4 h5,d=>.inr (.inr (.inr (.inr (.inr (.inr (.inl ⟨by cases r<;>simp[mkLet],h1,_,_,rfl,h2,λp hp=>Rz n p (h4 p hp) (d.2 p (by simp[mkLet,hp])),Rz n _ h5 (d.2 _ (by simp[mkLet]))⟩))))))
 |n+1,_,.cs h1 h2 h3 h4 h5,d=>.inr (.inr (.inr (.inr (.inr (.inr (.inr ⟨rfl,h1,λa ha=>(h3 a ha).2.1,_,_,rfl,h2,λp hp=>Rz n p (h4 p hp) (d.2 p (by simp[mkCase,hp])),Rz n _ h5 (d.2 _ (by simp[mkCase]))⟩))))))
theorem Ot.le{t:Tok}(h:Ot t):t.s.length<=600:=by obtain⟨_,_,_,_,_,_,_,h⟩:=h;exact h
theorem XP:∀(l:List Tok),(∀t∈l,Ot t)->(Mj l).length<=601*l.length
 |[],_=>by simp[Mj]
 |t::l,h=>by
  have h1:=(h t (by simp)).le;have h2:=XP l λx hx=>h x (by simp[hx])
  rw[Ww];simp;omega
def TL (n:Nat) (e:Ex):Prop:=(text n e).length+40<=700*Cp.wt n e
theorem zKQ:∀(l:List Tok)(ps:List Ex),ps.length=l.length->(∀t∈l,Ot t)->(∀p∈ps,TL n p)->(MC (MS (text n) l ps)).length<=700*l.length+700*(ps.map (Cp.wt n)).sum
 |[],_,_,_,_=>by simp[MS,MC]
 |[t],[e],_,ht,hp=>by have h1:=(ht t (by simp)).le;have h2:=hp e (by simp);unfold TL at h2;simp[MS,MC,Rw];omega
 |t::u::l,e::f::es,hl,ht,hp=>by have h1:=(ht t (by simp)).le;have h2:=hp e (by simp);have ih:=zKQ (u::l) (f::es) (by simpa using hl) (λx h=>ht x (l7 _ h)) (λx h=>hp x (l7 _ h));unfold TL at h2;rw[MS]at ih|-;rw[MS,Ve];simp[Rw]at ih|-;omega
 |[_],[],h,_,_=>by simp at h
 |[_],_::_::_,h,_,_=>by simp at h
 |_::_::_,[],h,_,_=>by simp at h
 |_::_::_,[_],h,_,_=>by simp at h
theorem zMD{a:Nat × List Tok}{e:Ex}(h:Q8 a)(he:TL n e)(o b:Bool):(PG a (Pn o b (text n e))).length<=700*(1+a.2.length)+700*Cp.wt n e-20:=by
 have h1:=ZN h.2.1;have h2:=XP _ h.2.2;have h3:(Pn o b (text n e)).length<=(text n e).length+2:=by
  unfold Pn;split
  .simp[paren]
  .omega
 unfold TL at he;simp[PG];omega
theorem zLF:∀(l:List (Nat × List Tok))(ps:List Ex),ps.length=l.length->(∀t∈l,Q8 t)->(∀p∈ps,TL n p)->(MC (MT (text n) (ends n) l ps)).length<=700*(l.map λa=>1+a.2.length).sum+700*(ps.map (Cp.wt n)).sum
 |[],_,_,_,_=>by simp[MT,MC]
 |[t],[e],_,ht,hp=>by have h1:=zMD (ht t (by simp)) (hp e (by simp)) (ends n e) true;simp[MT,MC];omega
 |t::u::l,e::f::es,hl,ht,hp=>by have h1:=zMD (ht t (by simp)) (hp e (by simp)) (ends n e) false;have ih:=zLF (u::l) (f::es) (by simpa using hl) (λx h=>ht x (l7 _ h)) (λx h=>hp x (l7 _ h));rw[MT]at ih|-;rw[MT,Ve];simp at ih h1|-;omega
 |[_],[],h,_,_=>by simp at h
 |[_],_::_::_,h,_,_=>by simp at h
 |_::_::_,[],h,_,_=>by simp at h
 |_::_::_,[_],h,_,_=>by simp at h
theorem Ry:∀(n:Nat)(e:Ex),Mk e->Wf n e->TL n e
 |0,_,_,w=>w.elim
 |n+1,_,.num h,_=>by have:=zKZ h;simp[TL,text,mkNum,Cp.wt];omega
 |n+1,_,.name h,_=>by have:=h.le;simp[TL,text,NY,Cp.wt];omega
 |n+1,_,.make _ h2 h3,_=>by have h1:=ZN h2;have h4:=ZN (yM h3 (by omega:9<=99));simp[TL,text,Oe,Cp.wt];omega
 |n+1,_,.fn (l:=l) h1 h2 h3,w=>by have a:=Ry n _ h3 (Ya w);have b:=XP l h2;simp[TL,text,mkFun,Cp.wt]at a|-;omega
 |n+1,_,.call (a:=a) (b:=b) ha hb,w=>by have h1:=Ry n _ ha (Te w).1;have h2:=Ry n _ hb (Te w).2;have h3:=XR a 4 (text n a);have h4:=XR b 5 (text n b);simp[TL,text,M5,Cp.wt]at h1 h2|-;omega
 |n+1,_,.op (t:=t) (a:=a) (b:=b) _ h6 ha hb,w=>by
  have h1:=Ry n _ ha (Rt w).1;have h2:=Ry n _ hb (Rt w).2;have h3:=XR a (max (level (JF t a b)) 2) (text n a);have h4:=XR b (level (JF t a b)+1) (text n b);have h5:t.s.length<=2:=by simp only[MM,Mz,PV,qT]at h6;rcases h6 with h|h|h|h|h|h<;>rw[h]<;>decide
  have e1:text (n+1) (JF t a b)=within a (max (level (JF t a b)) 2) (text n a)++[32]++t.s++[32]++within b (level (JF t a b)+1) (text n b):=rfl;unfold TL at h1 h2|-;rw[e1];simp[JF,Cp.wt]at h3 h4|-;omega
 |n+1,_,.lt (r:=r) (l:=l) (ps:=ps) (b:=b) h1 h2 h3 h4 h5,w=>by have a:=Ry n _ h5 (WD w).2;have c:=zKQ (n:=n) l ps h2 h3 (λp hp=>Ry n p (h4 p hp) ((WD w).1 p hp));cases r<;>(simp[TL,text,mkLet,Cp.wt]at a c|-;omega)
 |n+1,_,.cs (a:=x) (l:=l) (bs:=ps) h1 h2 h3 h4 h5,w=>by have a:=Ry n _ h5 (Wu w).2;have c:=zLF (n:=n) l ps h2 h3 (λp hp=>Ry n p (h4 p hp) ((Wu w).1 p hp));simp[TL,text,mkCase,Cp.wt]at a c|-;omega
theorem zL0(n:Nat):∀l:List By,(∀x∈l,Tf x/\Wf n x.e)->(Md n l).length<=700*(l.map λx=>Cp.wt n x.e+x.params.length+1).sum
 |[],_=>by simp[Md]
 |x::l,h=>by
  obtain⟨⟨h1,h2,h3⟩,w⟩:=h x (by simp);have a:=Ry n _ h3 w;have b:=XP _ h2;have c:=h1.le;have ih:=zL0 n l λy hy=>h y (by simp[hy])
  rw[zJt];unfold TL at a;simp[Pa]at ih|-;omega
end Th
end
section
open Go.RowKit
attribute [local go_sem ↓] Go.wp_at_zero Go.wp_at_succ
theorem Q7(a b:List UInt8):((⟨a.toArray⟩:ByteArray)++(⟨b.toArray⟩:ByteArray))=⟨(a++b).toArray⟩:=by apply ByteArray.ext;simp
theorem Th.zL4(l:List Th.Tok):∀i,(Th.Mj (l.take i)).length<=(Th.Mj l).length:=by
 have h:∀(k l:List Tok),(Mj l).length<=(Mj (l++k)).length:=by
  intro k
  induction k with
  |nil=>intro l;simp
  |cons t k ih=>intro l;have h1:=ih (l++[t]);have h2:=qz List.length (zJx l t);simp only[IJ,Np,I8]at h1 h2;omega
 intro i;have:=h (l.drop i) (l.take i)
 rwa [U5]at this
variable {w:World}{S:Nat->Prop}
theorem ZP{nv:Value}{l:List Tok}(hr:Row S w 88 2 nv l.length (Ms l))(hl:l.length<=1000000)(hz:(Mj l).length<=1000000):
  Calls prog 63 #[nv] w λe w'=>e=.returned (.string ⟨(Mj l).toArray⟩)/\Below w.heap.size w w':=by
 have HR:=eu hr;rcases Mq hr with hv|⟨g,cap,hv⟩
 .have da:l=[]:=by
   rcases hr.1.2 with⟨_,h0⟩|⟨_,_,_,h0,_⟩
   .exact Pl.1 h0
   .rw[hv]at h0;cases h0
  subst hv da;clear hr HR;go_enter func63,ntmps63;go_wp2_with fail;refine oI 1 ?_;rw[nE];go_wp2;go_ret;exact⟨rfl,Below.refl _ _⟩
 .subst hv;clear hr;go_enter func63,ntmps63;go_wp2_with fail
  go_loopg [3,8] l.length (λgk sv iv wr=>∃i:Nat,sv=.string ⟨(Mj (l.take i)).toArray⟩/\iv=.int .i64 i/\i<=l.length/\l.length-i<=gk/\Below w.heap.size w wr)
  case atStart=>exact⟨0,rfl,rfl,Kc _,by omega,Below.refl _ _⟩
  case round=>
   obtain⟨i,rfl,rfl,hi,jm,hb⟩:=hrel;have Hb:=eu hb;have cT:=hb.size;by_cases aj:i<l.length
   .obtain⟨t,ht⟩:∃t,l[i]?=some t:=⟨l[i],Iv aj⟩;have af:=HR.o.1.kept (Bj none hb) (PQ _);have ci:=Yk l i t ht;have i0:=(af.cellAt (i*2) (by omega)).trans ci.1;have i1:=(af.cellAt (i*2+1) (by omega)).trans ci.2;have fX:=(af.lt g rfl).2;have HS:=eu (zKK ht);have aP:(Mj (l.take i)).length+1+t.s.length<=1000000:=by
     have h1:=zL4 l (i+1);have h2:=qz List.length HS.o;simp only[IJ,Kh,My]at h2;omega
    clear af ci ht hb;go_wp2
    go_roundg (l.length-(i+1))
    case measure=>omega
    case rel=>
     refine⟨i+1,?_,by go_num,by omega,qP _,?_⟩
     .rw[HS.o];simp only[<-Q7]
     .exact Hb.o.trans ((Mi _ _).mono cT)
   .have br:i=l.length:=by omega
    subst br;clear hb;go_wp2;go_ret;refine⟨?_,?_⟩
    .simp
    .exact Hb.o
variable {v:Value}
theorem Wx(hv:(∃x,v=.iface 217 x)\/(∃x,v=.iface 215 x)\/(∃x,v=.iface 219 x)\/(∃x,v=.iface 163 x)\/∃x,v=.iface 166 x):
  Calls prog 240 #[v] w λr w'=>r=.returned (.bool false)/\Below w.heap.size w w':=by
 rcases hv with⟨x,rfl⟩|⟨x,rfl⟩|⟨x,rfl⟩|⟨x,rfl⟩|⟨x,rfl⟩
 .obtain⟨-,-,-,-,-,h2,h1,h3,-⟩:=Uk;go_enter func240,ntmps240;go_wp2;go_ret;exact⟨rfl,Below.refl _ _⟩
 .obtain⟨-,-,-,-,-,h2,h1,h3,-⟩:=Uh;go_enter func240,ntmps240;go_wp2;go_ret;exact⟨rfl,Below.refl _ _⟩
 .obtain⟨-,-,-,-,-,h2,h1,h3,-⟩:=Ta;go_enter func240,ntmps240;go_wp2;go_ret;exact⟨rfl,Below.refl _ _⟩
 .obtain⟨-,-,-,-,-,h2,h1,h3,-⟩:=Ue;go_enter func240,ntmps240;go_wp2;go_ret;exact⟨rfl,Below.refl _ _⟩
 .obtain⟨-,-,-,-,-,h2,h1,h3,-⟩:=Ui;go_enter func240,ntmps240;go_wp2;go_ret;exact⟨rfl,Below.refl _ _⟩
theorem zLq{a b:Value}(ha:One a)(hb:∃x k c,b=.slice x k c):
  Calls prog 240 #[.iface 173 (.agg #[a,b])] w λr w'=>r=.returned (.bool true)/\Below w.heap.size w w':=by
 obtain⟨x,k,c,rfl⟩:=hb;obtain⟨h1,-⟩:=Uf;rcases ha.shape with rfl|⟨t,y,rfl⟩
 all_goals
  go_enter func240,ntmps240;go_wp2;go_ret;exact⟨rfl,Mi _ _⟩
theorem zLV{r b:Bool}{sv bv:Value}(hs:∃x k c,sv=.slice x k c)(hb:∃t x,bv=.iface t x)(hx:∀W,Below w.heap.size w W->Calls prog 240 #[bv] W λr w'=>r=.returned (.bool b)/\Below W.heap.size W w'):
  Calls prog 240 #[.iface 178 (.agg #[.bool r,sv,bv])] w λr w'=>r=.returned (.bool b)/\Below w.heap.size w w':=by
 obtain⟨x,k,c,rfl⟩:=hs;obtain⟨t,y,rfl⟩:=hb;obtain⟨h2,-,-,-,-,-,h1,-⟩:=Ug;have CX:=eu (hx _ (Mi w (.cells #[.bool r,.slice x k c,.iface t y] 178)));clear hx;go_enter func240,ntmps240;go_wp2_with fail;refine CX.o.mono ?_;rintro en w1⟨rfl,b1⟩;have HB:=eu ((Mi w (.cells #[.bool r,.slice x k c,.iface t y] 178)).trans (b1.mono (by simp)));clear b1;go_wp2;go_ret;exact⟨rfl,HB.o⟩
theorem zLU{b:Bool}{sv bv:Value}(hs:∃x k c,sv=.slice x k c)(hb:∃t x,bv=.iface t x)(hx:∀W,Below w.heap.size w W->Calls prog 240 #[bv] W λr w'=>r=.returned (.bool b)/\Below W.heap.size W w'):
  Calls prog 240 #[.iface 226 (.agg #[sv,bv])] w λr w'=>r=.returned (.bool b)/\Below w.heap.size w w':=by
 obtain⟨x,k,c,rfl⟩:=hs;obtain⟨t,y,rfl⟩:=hb;obtain⟨h3,-,-,-,-,-,h2,h1,-⟩:=Uj;have CX:=eu (hx _ (Mi w (.cells #[.slice x k c,.iface t y] 226)));clear hx;go_enter func240,ntmps240;go_wp2_with fail;refine CX.o.mono ?_;rintro en w1⟨rfl,b1⟩;have HB:=eu ((Mi w (.cells #[.slice x k c,.iface t y] 226)).trans (b1.mono (by simp)));clear b1;go_wp2;go_ret;exact⟨rfl,HB.o⟩
theorem zJs:∀(n:Nat){w:World}{S:Nat->Prop}{v:Value}{e:Ex},qU S w n v e ->
  Calls prog 240 #[v] w λr w'=>r=.returned (.bool (Th.ends n e))/\Below w.heap.size w w'
 |0,_,_,_,_,h=>h.elim
 |n+1,w,S,v,e,h=>by
  have flat:e.kind≠9->e.kind≠4->e.kind≠7->e.kind≠8->Th.ends (n+1) e=false:=by intro h1 h2 h3 h4;rw[Th.ends,pL h1,qj]
  rcases h with⟨hk,rfl⟩|⟨hk,rfl⟩|⟨hk,rfl⟩|⟨hk,sv,bv,b,h1,rfl,h3,h4⟩|⟨hk,v1,v2,e1,e2,h1,rfl,h3,h4⟩|⟨hk,v1,v2,e1,e2,h1,rfl,h3,h4⟩|⟨hk,sv,bv,b,parts,pvs,h1,rfl,h3,h4,h5,h6,h7⟩|⟨hk,cv,sv,b,ag,nvs,bvs,h1,rfl,h3,h4,h5,h6,h7,h8,h9⟩
  .rw[flat (by omega) (by omega) (by omega) (by omega)];exact Wx (.inl ⟨_,rfl⟩)
  .rw[flat (by omega) (by omega) (by omega) (by omega)];exact Wx (.inr (.inl ⟨_,rfl⟩))
  .rw[flat (by omega) (by omega) (by omega) (by omega)];exact Wx (.inr (.inr (.inl ⟨_,rfl⟩)))
  .have e1:Th.ends (n+1) e=Th.ends n b:=by rw[Th.ends,qj,nB (.inl hk),h1];rfl
   rw[e1];exact zLU (Jk h3) (JQ h4) (λW hW=>zJs n (h4.gb (Bj none hW) (by simp)))
  .rw[flat (by omega) (by omega) (by omega) (by omega)];exact Wx (.inr (.inr (.inr (.inl ⟨_,rfl⟩))))
  .rw[flat (by omega) (by omega) (by omega) (by omega)];exact Wx (.inr (.inr (.inr (.inr ⟨_,rfl⟩))))
  .have e1:Th.ends (n+1) e=Th.ends n b:=by rw[Th.ends,qj,nB (.inr hk),h1];rfl
   rw[e1];exact zLV (Jk h5) (JQ h7) (λW hW=>zJs n (h7.gb (Bj none hW) (by simp)))
  .have e1:Th.ends (n+1) e=true:=by rw[Th.ends,nB hk]
   rw[e1];exact zLq (ztU h9) (Jk h6)
def Nq (w : World) : Prop := Lib.TabIs Tryz.prog w "internal/strconv.uint64pow10" .u64 Lib.pow10Tab
theorem Nq.below{w':World}(h:Nq w)(hb:Below w.heap.size w w'):Nq w':=by
 unfold Nq Lib.TabIs World.var? at h|-;rw[JM]at h|-;obtain⟨g,hg,h⟩:=h;refine⟨g,hg,?_⟩;have aj:g<w.heap.size:=by
  rcases Rs g w.heap.size with h1|h1
  .exact h1
  .rw[Array.getElem?_eq_none h1]at h;cases h
 rw[hb.block g aj];exact h
def RD (n:Nat):Prop:=∀(w:World)(S:Nat->Prop)(v:Value)(e:Ex),Nq w->qU S w n v e->Wf n e->(Th.text n e).length<=1000000 ->
 Calls prog 64 #[v] w λr w'=>r=.returned (.string ⟨(Th.text n e).toArray⟩)/\Below w.heap.size w w'
variable {n:Nat}
theorem zKe(hx:RD n){e:Ex}(ht:Nq w)(h:qU S w n v e)(hw:Wf n e)(hl:(Th.text n e).length<=999998):
  Calls prog 182 #[v] w λr w'=>r=.returned (.string ⟨(paren (Th.text n e)).toArray⟩)/\Below w.heap.size w w':=by
 obtain⟨t,x,rfl⟩:=JQ h;have CX:=eu (hx w S _ e ht h hw (by omega));clear hx h hw ht;obtain⟨X,hX⟩:∃X,Th.text n e=X:=⟨_,rfl⟩;rw[hX]at CX hl|-;clear hX;have HP:Hid ((⟨(paren X).toArray⟩:ByteArray)=⟨#[40]⟩++⟨X.toArray⟩++⟨#[41]⟩):=eu (by simp only[paren,<-Q7]);go_enter func182,ntmps182;go_wp2_with fail;refine CX.o.mono ?_;rintro en w1⟨rfl,b1⟩;have HB:=eu b1;clear b1;go_wp2;go_ret;exact⟨by rw[HP.o];rfl,HB.o⟩
def XD:List (Nat × Nat × Nat):=[(215,321,5),(217,322,5),(219,323,5),(163,317,4),(178,319,0),(173,318,0),(226,324,0)]
theorem Uo{T F L:Nat}(h:(T,F,L)∈XD)(x:Value)(w:World):Calls prog F #[x] w λe w'=>e=.returned (.int .i64 L)/\Below w.heap.size w w':=by
 simp only[XD,Mz,O2,PV,qT]at h;rcases h with⟨-,rfl,rfl⟩|⟨-,rfl,rfl⟩|⟨-,rfl,rfl⟩|⟨-,rfl,rfl⟩|⟨-,rfl,rfl⟩|⟨-,rfl,rfl⟩|⟨-,rfl,rfl⟩
 all_goals
  first
   |go_enter func321,ntmps321
   |go_enter func322,ntmps322
   |go_enter func323,ntmps323
   |go_enter func317,ntmps317
   |go_enter func319,ntmps319
   |go_enter func318,ntmps318
   |go_enter func324,ntmps324
  go_wp2_with fail
  all_goals
   go_ret;exact⟨rfl,Mi _ _⟩
theorem zIG{s:List UInt8}(hs:s∈Th.MM){v1 v2:Value}(h1:∃t x,v1=.iface t x)(h2:∃t x,v2=.iface t x)(w:World):
  Calls prog 183 #[.agg #[.string ⟨s.toArray⟩,v1,v2]] w λe w'=>e=.returned (.int .i64 (if s=[42]\/s=[47]then 3 else if s=[43]\/s=[45]then 2 else 1:Nat))/\Below w.heap.size w w':=by
 obtain⟨t1,x1,rfl⟩:=h1;obtain⟨t2,x2,rfl⟩:=h2;have hc:s=[43]\/s=[45]\/s=[42]\/s=[47]\/s=[60]\/s=[61,61]:=by simpa[Th.MM]using hs
 clear hs;rcases hc with rfl|rfl|rfl|rfl|rfl|rfl
 all_goals
  go_enter func183,ntmps183;go_wp2;go_ret;exact⟨rfl,Mi _ _⟩
def tfs:List (Nat × Nat):=(166,183)::XD.map λp=>(p.1,p.2.1)
theorem Td{x:Value}{T F L least:Nat}{X P:List UInt8}(hT:(T,F)∈tfs)(hL:Calls prog F #[x] w λe w'=>e=.returned (.int .i64 (L:Nat))/\Below w.heap.size w w')(hE:∀W,Below w.heap.size w W->Calls prog 64 #[.iface T x] W λr w'=>r=.returned (.string ⟨X.toArray⟩)/\Below W.heap.size W w')(hP:L<least->∀W,Below w.heap.size w W->Calls prog 182 #[.iface T x] W λr w'=>r=.returned (.string ⟨P.toArray⟩)/\Below W.heap.size W w'):
  Calls prog 109 #[.iface T x,.int .i64 least] w λr w'=>r=.returned (.string ⟨(if L<least then P else X).toArray⟩)/\Below w.heap.size w w':=by
 obtain⟨Y,hY⟩:∃Y,(if L<least then P else X)=Y:=⟨_,rfl⟩;rw[hY];have CL:=eu hL;have CE:=eu hE;have CP:=eu hP;have HY:=eu hY;clear hL hE hP hY;simp only[tfs,XD,Ki,qO,Mz,O2,PV,qT]at hT;rcases hT with⟨rfl,rfl⟩|⟨rfl,rfl⟩|⟨rfl,rfl⟩|⟨rfl,rfl⟩|⟨rfl,rfl⟩|⟨rfl,rfl⟩|⟨rfl,rfl⟩|⟨rfl,rfl⟩
 all_goals
  go_enter func109,ntmps109;go_wp2_with fail;refine CL.o.mono ?_;rintro en w1⟨rfl,b1⟩;have cB:=eu b1;clear b1;by_cases hc:(L:Int)<least
  .go_wp2_with fail;refine(CP.o (by omega) _ cB.o).mono ?_;rintro en w2⟨rfl,b2⟩;have gA:=eu (cB.o.trans (b2.mono cB.o.size));clear b2;go_wp2;go_ret;exact⟨by rw[<-HY.o,Ji];rfl,gA.o⟩
  .go_wp2_with fail;refine(CE.o _ cB.o).mono ?_;rintro en w2⟨rfl,b2⟩;have gA:=eu (cB.o.trans (b2.mono cB.o.size));clear b2;go_wp2;go_ret;exact⟨by rw[<-HY.o,qj];rfl,gA.o⟩
theorem XZ(hx:RD n){e:Ex}{least:Nat}(ht:Nq w)(h:qU S w n v e)(hw:Wf n e)(hl:(Th.within e least (Th.text n e)).length<=1000000):
  Calls prog 109 #[v,.int .i64 least] w λr w'=>r=.returned (.string ⟨(Th.within e least (Th.text n e)).toArray⟩)/\Below w.heap.size w w':=by
 have aL:(Th.text n e).length<=1000000:=by
  refine yM ?_ hl;unfold Th.within;split
  .simp[paren];omega
  .exact qP _
 have CE:=λ(W:World)(hW:Below w.heap.size w W)=>hx W S v e (ht.below hW) (h.gb (Bj none hW) (by simp)) hw aL
 have CP:∀L,level e=L->L<least->∀W,Below w.heap.size w W->Calls prog 182 #[v] W λr w'=>r=.returned (.string ⟨(paren (Th.text n e)).toArray⟩)/\Below W.heap.size W w':=λL hL hc W hW=>zKe hx (ht.below hW) (h.gb (Bj none hW) (by simp)) hw (by rw[Th.within,nB (by rw[hL];exact hc)]at hl;simp[paren]at hl;omega)
 clear hl aL;unfold Th.within;cases n with
 |zero=>exact h.elim
 |succ n=>
  rcases h with⟨hk,rfl⟩|⟨hk,rfl⟩|⟨hk,rfl⟩|⟨hk,sv,bv,b,h1,rfl,h3,h4⟩|⟨hk,v1,v2,e1,e2,h1,rfl,h3,h4⟩|⟨hk,v1,v2,e1,e2,h1,rfl,h3,h4⟩|⟨hk,sv,bv,b,parts,pvs,h1,rfl,h3,h4,h5,h6,h7⟩|⟨hk,cv,sv,b,ag,nvs,bvs,h1,rfl,h3,h4,h5,h6,h7,h8,h9⟩
  .have hl:level e=5:=by simp[level,hk]
   rw[hl];exact Td (F:=322) (by decide) (Uo (T:=217) (by decide) _ _) CE (CP _ hl)
  .have hl:level e=5:=by simp[level,hk]
   rw[hl];exact Td (F:=321) (by decide) (Uo (T:=215) (by decide) _ _) CE (CP _ hl)
  .have hl:level e=5:=by simp[level,hk]
   rw[hl];exact Td (F:=323) (by decide) (Uo (T:=219) (by decide) _ _) CE (CP _ hl)
  .have hl:level e=0:=by simp[level,hk]
   rw[hl];exact Td (F:=324) (by decide) (Uo (T:=226) (by decide) _ _) CE (CP _ hl)
  .have hl:level e=4:=by simp[level,hk]
   rw[hl];exact Td (F:=317) (by decide) (Uo (T:=163) (by decide) _ _) CE (CP _ hl)
  .have hs:e.tok.s∈Th.MM:=by
    rcases hw with h|h|h|⟨h,_⟩|⟨h,_⟩|⟨h,hs,_⟩|⟨h,_⟩|⟨h,_⟩
    all_goals first|exact hs|omega
   have hl:level e=if e.tok.s=[42]\/e.tok.s=[47]then 3 else if e.tok.s=[43]\/e.tok.s=[45]then 2 else 1:=by rw[level,qj,nB hk]
   rw[hl];exact Td (by decide) (zIG hs (JQ h3) (JQ h4) _) CE (CP _ hl)
  .have hl:level e=0:=by rcases hk with hk|hk<;>simp[level,hk]
   rw[hl];exact Td (F:=319) (by decide) (Uo (T:=178) (by decide) _ _) CE (CP _ hl)
  .have hl:level e=0:=by simp[level,hk]
   rw[hl];exact Td (F:=318) (by decide) (Uo (T:=173) (by decide) _ _) CE (CP _ hl)
theorem zKu(k:Nat)(os:Array Obj):Below w.heap.size w (Go.Sort.grow (w.drewN k) os):=by
 refine⟨rfl,rfl,rfl,?_,λj hj=>?_⟩
 .show w.heap.size<=(w.heap++os).size;simp
 .show(w.heap++os)[j]?=w.heap[j]?;rw[Array.getElem?_append_left hj]
theorem zLY{s:ByteArray}{p:Nat}:
  Calls prog 64 #[.iface 215 (.agg #[.string s,.int .i64 p])] w λr w'=>r=.returned (.string s)/\Below w.heap.size w w':=by
 obtain⟨g1,-⟩:=Uh;go_enter func64,ntmps64;go_wp2;go_ret;exact⟨rfl,Mi _ _⟩
variable {k:Nat}
theorem zKh(ht:Nq w)(hk:k<=999999999):
  Calls prog 64 #[.iface 217 (.agg #[.int .i64 k])] w λr w'=>r=.returned (.string ⟨(Lib.itoa k).toArray⟩)/\Below w.heap.size w w':=by
 obtain⟨g2,g1,-⟩:=Uk;have HT:=eu (ht.below (Mi w (.cells #[.int .i64 k] 217)));clear ht;go_enter func64,ntmps64;go_wp2_with (go_at_call 100;refine(Tryz.strconv_FormatInt_10 _ (by omega) (by omega) _ HT.o).mono ?_;rintro en w1⟨rfl,k1,os,rfl⟩);go_ret;exact⟨rfl,(Mi _ _).trans ((zKu _ _).mono (by simp))⟩
theorem zKg{t:Nat}{R:ByteArray}(hR:R=⟨#[123]⟩++⟨(Lib.decDigits t).toArray⟩++⟨#[44]⟩++⟨(Lib.decDigits k).toArray⟩++⟨#[125]⟩)(ht:t<=99)(hk:k<=9)(hl:(Lib.decDigits t).length+(Lib.decDigits k).length<=1000000):
  Calls prog 64 #[.iface 219 (.agg #[.int .i64 t,.int .i64 k])] w λr w'=>r=.returned (.string R)/\Below w.heap.size w w':=by
 obtain⟨g3,g1,g2,-⟩:=Ta;have HR:=eu hR;clear hR;go_enter func64,ntmps64;go_wp2_with fail
 go_region_with (first
  |(go_at_call_of 101 (Value.int .i64 (t:Int));refine(Tryz.strconv_Itoa_small t (by omega) _).mono ?_;rintro en w1⟨rfl,rfl⟩)
  |(go_at_call_of 101 (Value.int .i64 (k:Int));refine(Tryz.strconv_Itoa_small k (by omega) _).mono ?_;rintro en w1⟨rfl,rfl⟩))
 all_goals
  go_wp2;go_ret;exact⟨by rw[HR.o];rfl,(Mi _ _).drew⟩
theorem zKE{t:Nat}(ht:t<=99)(hk:k<=9)(hl:(Lib.decDigits t).length+(Lib.decDigits k).length<=1000000):
  Calls prog 64 #[.iface 219 (.agg #[.int .i64 t,.int .i64 k])] w λr w'=>r=.returned (.string ⟨([123]++Lib.decDigits t++[44]++Lib.decDigits k++[125]).toArray⟩)/\Below w.heap.size w w':=
 zKg (by simp only[<-Q7]) ht hk hl
theorem Th.XQ(e:Th.Ex)(k:Nat)(s:List UInt8):s.length<=(Th.within e k s).length:=by
 unfold Th.within;split
 .simp[paren];omega
 .exact qP _
theorem zLr(hx:RD n){v1 v2:Value}{e1 e2:Ex}{A B:List UInt8}{R:ByteArray}(hR:R=⟨A.toArray⟩++⟨#[32]⟩++⟨B.toArray⟩)(hA:A=Th.within e1 4 (Th.text n e1))(hB:B=Th.within e2 5 (Th.text n e2))(ht:Nq w)(d1:qU S w n v1 e1)(d2:qU S w n v2 e2)(f1:Wf n e1)(f2:Wf n e2)(hl:A.length+B.length<=999999):
  Calls prog 64 #[.iface 163 (.agg #[v1,v2])] w λr w'=>r=.returned (.string R)/\Below w.heap.size w w':=by
 obtain⟨t1,x1,rfl⟩:=JQ d1;obtain⟨t2,x2,rfl⟩:=JQ d2;obtain⟨g4,g1,g2,g3,-⟩:=Ue;have l1:=XQ e1 4 (Th.text n e1);have l2:=XQ e2 5 (Th.text n e2);rw[<-hA]at l1;rw[<-hB]at l2;have C1:=eu (λ(W:World)(hW:Below w.heap.size w W)=>XZ hx (least:=4) (ht.below hW) (d1.gb (Bj none hW) (by simp)) f1 (by rw[<-hA];omega));have C2:=eu (λ(W:World)(hW:Below w.heap.size w W)=>XZ hx (least:=5) (ht.below hW) (d2.gb (Bj none hW) (by simp)) f2 (by rw[<-hB];omega));rw[<-hA]at C1;rw[<-hB]at C2;have HR:=eu hR;have Is:=eu (Mi w (.cells #[.iface t1 x1,.iface t2 x2] 163));have HA:=eu (gH w [.iface t1 x1,.iface t2 x2] 163);have CE:Hid (∀W:World,Below (w.heap.size+1) (w.alloc (.cells #[.iface t1 x1,.iface t2 x2] 163)) W->W.cell? ⟨w.heap.size,1,none⟩=some (.iface t2 x2)):=eu (λW hW=>by simpa using(HA.o.below hW (by omega)).cell 1);clear d1 d2 f1 f2 hx l1 l2 hA hB hR ht;go_enter func64,ntmps64;go_wp2_with fail
 go_region_with (first
  |(go_at_call_of 109 (Value.iface t1 x1);refine(C1.o _ ?_).mono ?_;exact Is.o.drew;rintro en w1⟨rfl,b1⟩;have I4:Below w.heap.size w w1:=Is.o.drew.trans (b1.mono Is.o.size);have cB:=eu I4;have k1:=CE.o w1 ((Below.refl _ _).drew.trans (b1.mono (by simp)));have aW:=I4.size;clear b1 I4)
  |(go_at_call_of 109 (Value.iface t2 x2);refine(C2.o _ ?_).mono ?_;exact cB.o;rintro en w2⟨rfl,b2⟩;have gA:=eu (cB.o.trans (b2.mono aW));clear b2))
 all_goals
  go_wp2;go_ret;exact⟨by rw[HR.o];rfl,gA.o⟩
end
end Go.Proofs.YtgahgkddaljmkaaGreatDoor
