/- RsA .. Show2 -/
import Derived.Test.YtgahgkddaljmkaaGreatDoorV9
set_option maxRecDepth 100000
set_option maxHeartbeats 4000000
namespace Go.Proofs.YtgahgkddaljmkaaGreatDoor
open Tryz Th Cp
section
namespace Th
def zT (t:Tok):Tok:=⟨t.k,t.s,0⟩
def zE:Ex->Ex
 |⟨k,t,n,g,a,ns,am,ks⟩=>⟨k,zT t,n,g,a,ns.map zT,am.map (λp=>(p.1,p.2.map zT)),ks.map zE⟩
def zA (a:Nat × List Tok):Nat × List Tok:=(a.1,a.2.map zT)
theorem Pb(e:Ex):zE e=⟨e.kind,zT e.tok,e.n,e.tag,e.arity,e.names.map zT,e.nA.map zA,e.kids.map zE⟩:=by cases e;rw[zE];rfl
def zS (st:St):St:=⟨st.rest.map zT,st.bad.map λ_=>0⟩
theorem zT0:zT ON=ON:=rfl
theorem QL(t:Tok):(zT t).s=t.s:=rfl
theorem Sn(t:Tok):(zT t).k=t.k:=rfl
theorem RC(st:St):(zS st).hd=zT st.hd:=by obtain⟨r,b⟩:=st;cases r<;>rfl
theorem XV(st:St):(zS st).bad.isNone=st.bad.isNone:=by obtain⟨r,b⟩:=st;cases b<;>rfl
theorem Qg(s:List UInt8)(st:St):St.is s (zS st)=St.is s st:=by simp[St.is,RC,XV,QL]
theorem WE(k:Nat)(st:St):St.kind k (zS st)=St.kind k st:=by simp[St.kind,RC,XV,Sn]
theorem QA(st:St):(zS st).qM=zS st.qM:=by simp[St.qM,zS]
theorem XU(st:St):(zS st).fail=zS st.fail:=by
 unfold St.fail;rw[XV];cases st.bad.isNone with
 |false=>rfl
 |true=>simp only[kP,RC];rfl
theorem Sl(s:List UInt8)(st:St):want s (zS st)=zS (want s st):=by unfold want;rw[Qg];cases St.is s st<;>simp[QA,XU]
theorem Z0(st:St):IG (zS st)=(zT (IG st).1,zS (IG st).2):=by unfold IG;rw[WE];cases St.kind 2 st<;>simp[QA,XU,RC,zT0]
theorem zMM:∀l:List Tok,(l.map zT).takeWhile (λt=>t.k == 2)=(l.takeWhile (λt=>t.k == 2)).map zT/\(l.map zT).dropWhile (λt=>t.k == 2)=(l.dropWhile (λt=>t.k == 2)).map zT
 |[]=>⟨rfl,rfl⟩
 |t::l=>by
  obtain⟨h1,h2⟩:=zMM l;rw[Ki];by_cases h:t.k=2
  .simp[Sn,h,h1,h2]
  .simp[Sn,h]
theorem ZV(st:St):JR (zS st)=((JR st).1.map zT,zS (JR st).2):=by
 obtain⟨r,b⟩:=st;cases b with
 |none=>simp[JR,zS,zMM r]
 |some p=>simp[JR,zS]
theorem zJJ(lo hi:Nat)(st:St):Kv lo hi (zS st)=((Kv lo hi st).1,zS (Kv lo hi st).2):=by unfold Kv;rw[WE,RC,QL];split<;>simp[QA,XU]
theorem zMP(n:Nat):zE (mkNum n)=mkNum n:=(Pb _).trans rfl
theorem zMb(t:Tok):zE (NY t)=NY (zT t):=(Pb _).trans rfl
theorem zMa(t a:Nat):zE (Oe t a)=Oe t a:=(Pb _).trans rfl
theorem zMN(l:List Tok)(e:Ex):zE (mkFun l e)=mkFun (l.map zT) (zE e):=(Pb _).trans rfl
theorem zL8(a b:Ex):zE (M5 a b)=M5 (zE a) (zE b):=(Pb _).trans rfl
theorem WI(t:Tok)(a b:Ex):zE (JF t a b)=JF (zT t) (zE a) (zE b):=(Pb _).trans rfl
theorem zMO(r:Bool)(l:List Tok)(ps:List Ex)(e:Ex):zE (mkLet r l ps e)=mkLet r (l.map zT) (ps.map zE) (zE e):=(Pb _).trans rfl
theorem zL9(a:Ex)(l:List (Nat × List Tok))(b:List Ex):zE (mkCase a l b)=mkCase (zE a) (l.map zA) (b.map zE):=(Pb _).trans rfl
theorem Wr:zE Mw=Mw:=(Pb _).trans rfl
def zR (r:Option (Ex × St)):Option (Ex × St):=r.map λx=>(zE x.1,zS x.2)
theorem Tb(e:Ex)(st:St):zR (some (e,st))=some (zE e,zS st):=rfl
def Q9 (f:St->Option (Ex × St)):Prop:=∀st,f (zS st)=zR (f st)
def P4 (ex:Rd):Prop:=∀o,Q9 (ex o)
theorem zb{f g:Ex × St->Option (Ex × St)}{r:Option (Ex × St)}(h:∀x,f (zE x.1,zS x.2)=zR (g x)):(zR r).bind f=zR (r.bind g):=by
 cases r with
 |none=>rfl
 |some x=>exact h x
variable {ex:Rd}
theorem zK7(h:P4 ex):Q9 (NZ ex):=λst=>by
 unfold NZ;rw[WE,WE,Qg,Qg];split
 .rw[Tb,RC,QA,zMb]
 .split
  .rw[Tb,RC,QA,zMP,QL]
  .split
   .rw[Tb,QA];unfold PN;simp only[zJJ,Sl,zMa]
   .split
    .rw[QA,h false];exact zb λx=>by rw[Tb,Sl]
    .rw[Tb,Wr,XU]
theorem zMd(st:St):NN (zS st)=NN st:=by simp[NN,WE,Qg]
theorem zKc{ex:Rd}(h:P4 ex):∀(k:Nat)(e:Ex)(st:St),Of ex k (zE e) (zS st)=zR (Of ex k e st)
 |0,_,_=>rfl
 |k+1,e,st=>by
  rw[Of,Of,zMd];split
  .rw[zK7 h st];exact zb λx=>by rw[<-zL8];exact zKc h k _ _
  .rfl
theorem zK8(h:P4 ex)(k:Nat):Q9 (OZ ex k):=λst=>by unfold OZ;rw[zK7 h st];exact zb λx=>zKc h k _ _
theorem zKC{sub:St->Option (Ex × St)}(h:Q9 sub)(a b:List UInt8):∀(k:Nat)(e:Ex)(st:St),Nk sub a b k (zE e) (zS st)=zR (Nk sub a b k e st)
 |0,_,_=>rfl
 |k+1,e,st=>by
  rw[Nk,Nk,Qg,Qg];split
  .rw[QA,h,RC];exact zb λx=>by rw[<-WI];exact zKC h a b k _ _
  .rfl
theorem zJq(h:P4 ex)(k:Nat):Q9 (Px ex k):=λst=>by unfold Px;rw[zK8 h k st];exact zb λx=>zKC (zK8 h k) _ _ _ _ _
theorem zLS(h:P4 ex)(k:Nat):Q9 (PD ex k):=λst=>by unfold PD;rw[zJq h k st];exact zb λx=>zKC (zJq h k) _ _ _ _ _
theorem zMt(h:P4 ex)(k:Nat):Q9 (Py ex k):=λst=>by
 unfold Py;rw[zLS h k st];refine zb λx=>?_
 rw[Qg,Qg];split
 .rw[QA,zLS h k,RC];exact zb λy=>by rw[Tb,WI]
 .rfl
def zB (r:Option (List Tok × List Ex × St)):Option (List Tok × List Ex × St):=r.map λx=>(x.1.map zT,x.2.1.map zE,zS x.2.2)
theorem zKb{ex:Rd}(h:P4 ex):∀(k:Nat)(l:List Tok)(es:List Ex)(st:St),NH ex k (l.map zT) (es.map zE) (zS st)=zB (NH ex k l es st)
 |0,_,_,_=>rfl
 |k+1,l,es,st=>by
  rw[NH,NH];simp only[Z0,Sl];rw[h true];cases ex true (want [61] (IG st).2)with
  |none=>rfl
  |some r=>
   show(if St.is [59] (zS r.2)then NH ex k (l.map zT++[zT (IG st).1]) (es.map zE++[zE r.1]) (zS r.2).qM else some (l.map zT++[zT (IG st).1],es.map zE++[zE r.1],zS r.2))=zB (if St.is [59] r.2 then NH ex k (l++[(IG st).1]) (es++[r.1]) r.2.qM else some (l++[(IG st).1],es++[r.1],r.2));rw[Qg];split
   .have:=zKb h k (l++[(IG st).1]) (es++[r.1]) r.2.qM;rw[QA];simpa using this
   .simp[zB]
theorem zM4(h:P4 ex)(k:Nat)(o:Bool):Q9 (Qv ex k o):=λst=>by
 unfold Qv;simp only[Qg];have e1:(if St.is Na st=true then(zS st).qM else zS st)=zS (if St.is Na st=true then st.qM else st):=by split<;>simp[QA]
 rw[e1];have:=zKb h k [] [] (if St.is Na st=true then st.qM else st);simp only[qO]at this;rw[this];cases NH ex k [] [] (if St.is Na st=true then st.qM else st)with
 |none=>rfl
 |some r=>show(ex o (want Mx (zS r.2.2))).bind _=zR ((ex o (want Mx r.2.2)).bind _);rw[Sl,h o];exact zb λx=>by rw[Tb,zMO]
def zM (r:Option ((Nat × List Tok) × Ex × St)):Option ((Nat × List Tok) × Ex × St):=r.map λx=>(zA x.1,zE x.2.1,zS x.2.2)
theorem zM2(h:P4 ex)(o:Bool)(st:St):PC ex o (zS st)=zM (PC ex o st):=by unfold PC;simp only[Sl,zJJ,ZV];rw[h o];cases ex o (want [45,62] (JR (want [62] (Kv 1 99 (want [60] st)).2)).2)<;>rfl
theorem zLz(o:Bool)(st:St):NL o (zS st)=NL o st:=by
 unfold NL;rw[Qg];obtain⟨r,b⟩:=st;cases r with
 |nil=>rfl
 |cons t r=>cases r<;>rfl
def zC (r:Option (List (Nat × List Tok) × List Ex × St)):Option (List (Nat × List Tok) × List Ex × St):=r.map λx=>(x.1.map zA,x.2.1.map zE,zS x.2.2)
theorem zK6{ex:Rd}(h:P4 ex)(o:Bool):∀(k:Nat)(l:List (Nat × List Tok))(es:List Ex)(st:St),NI ex o k (l.map zA) (es.map zE) (zS st)=zC (NI ex o k l es st)
 |0,_,_,_=>rfl
 |k+1,l,es,st=>by
  rw[NI,NI,zM2 h];cases PC ex o st with
  |none=>rfl
  |some r=>
   show(if NL o (zS r.2.2)then NI ex o k (l.map zA++[zA r.1]) (es.map zE++[zE r.2.1]) (zS r.2.2).qM else some (l.map zA++[zA r.1],es.map zE++[zE r.2.1],zS r.2.2))=zC (if NL o r.2.2 then NI ex o k (l++[r.1]) (es++[r.2.1]) r.2.2.qM else some (l++[r.1],es++[r.2.1],r.2.2));rw[zLz];split
   .have:=zK6 h o k (l++[r.1]) (es++[r.2.1]) r.2.2.qM;rw[QA];simpa using this
   .simp[zC]
theorem zMs(h:P4 ex)(k:Nat)(o:Bool):Q9 (Qr ex k o):=λst=>by
 unfold Qr;rw[h false];refine zb λx=>?_
 rw[Sl];have:=zK6 h o k [] [] (want Nt x.2);simp only[qO]at this;rw[this];cases NI ex o k [] [] (want Nt x.2)with
 |none=>rfl
 |some r=>show some (mkCase (zE x.1) (r.1.map zA) (r.2.1.map zE),zS r.2.2)=some (zE (mkCase x.1 r.1 r.2.1),zS r.2.2);rw[zL9]
theorem zM3(h:P4 ex)(o:Bool):Q9 (Qu ex o):=λst=>by unfold Qu;simp only[Z0,ZV,Sl];rw[h o];exact zb λx=>by rw[Tb,zMN,Ki]
theorem zMr(h:P4 ex)(k:Nat)(o:Bool):Q9 (NU ex k o):=λst=>by
 unfold NU;rw[Qg,Qg,Qg,QA];split
 .exact zM4 h k o _
 .split
  .exact zMs h k o _
  .split
   .exact zM3 h o _
   .exact zMt h k _
theorem zK9:∀n,P4 (Mn n)
 |0=>λ_ _=>rfl
 |n+1=>λo=>zMr (zK9 n) n o
def zN (x:By):By:=⟨zT x.name,x.params.map zT,zE x.e⟩
def zP (r:Option (List By × St)):Option (List By × St):=r.map λx=>(x.1.map zN,zS x.2)
theorem zKd{ex:Rd}(h:P4 ex):∀(k:Nat)(l:List By)(st:St),N7 ex k (l.map zN) (zS st)=zP (N7 ex k l st)
 |0,_,_=>rfl
 |k+1,l,st=>by
  rw[N7,N7,XV,RC,Sn];split
  .have hl:Qs ex (zS st)=(Qs ex st).map λx=>(zN x.1,zS x.2):=by
    unfold Qs;simp only[Z0,ZV,Sl];rw[h true];cases ex true (want [61] (JR (IG st).2).2)with
    |none=>rfl
    |some r=>show some ((⟨_,_,_⟩:By),want [59] (zS r.2))=_;rw[Sl];rfl
   rw[hl];cases Qs ex st with
   |none=>rfl
   |some r=>have:=zKd h k (l++[r.1]) r.2;simpa using this
  .rfl
def Word (s:List UInt8):Prop:=∃c r,s=c::r/\isLet c=true/\(∀x∈s,MY x=true)/\SN s=false/\s.length<=600
def Ot (t:Tok):Prop:=t.k=2/\Word t.s
inductive Mk:Ex->Prop
 |num {v:Nat}:v<=999999999->Mk (mkNum v)
 |name {t:Tok}:Ot t->Mk (NY t)
 |make {t a:Nat}:1<=t->t<=99->a<=9->Mk (Oe t a)
 |fn {l:List Tok} {b:Ex}:l≠[]->(∀t∈l,Ot t)->Mk b->Mk (mkFun l b)
 |call {a b:Ex}:Mk a->Mk b->Mk (M5 a b)
 |op {t:Tok} {a b:Ex}:t.k=4->t.s∈MM->Mk a->Mk b->Mk (JF t a b)
 |lt {r:Bool} {l:List Tok} {ps:List Ex} {b:Ex}:l≠[]->ps.length=l.length->(∀t∈l,Ot t)->(∀p∈ps,Mk p)->Mk b->Mk (mkLet r l ps b)
 |cs {a:Ex} {l:List (Nat × List Tok)} {bs:List Ex}:l≠[]->bs.length=l.length->(∀x∈l,1<=x.1/\x.1<=99/\∀t∈x.2,Ot t)->(∀p∈bs,Mk p)->Mk a->Mk (mkCase a l bs)
def TO (t:Tok):Prop:=(t.k=2->Word t.s)/\(t.k=3->val t.s<=999999999)/\(t.s∈MM->t.k=4)
def TS (st:St):Prop:=∀t∈st.rest,TO t
theorem TS.qM{st:St}(h:TS st):TS st.qM:=λt ht=>h t (List.mem_of_mem_tail ht)
theorem TS.fail{st:St}(h:TS st):TS st.fail:=by
 unfold St.fail;split
 .intro t ht;simp at ht
 .exact h
theorem TS.want{st:St}(s:List UInt8)(h:TS st):TS (want s st):=by
 unfold Th.want;split
 .exact h.qM
 .exact h.fail
theorem TS.hd{st:St}(h:TS st):TO st.hd:=by
 unfold St.hd;cases hr:st.rest with
 |nil=>exact⟨λe=>by simp[ON]at e,λe=>by simp[ON]at e,λe=>by simp[ON,MM]at e⟩
 |cons t r=>exact h t (by rw[hr];exact vW ..)
theorem TS.IG{st:St}(h:TS st):TS (IG st).2/\((IG st).2.bad=none->Ot (IG st).1):=by
 unfold Th.IG;split
 .next hk=>unfold St.kind at hk;simp only[OR,uq]at hk;exact⟨h.qM,λ_=>⟨hk.2,h.hd.1 hk.2⟩⟩
 .exact⟨h.fail,λhb=>(SI hb).elim⟩
theorem TS.JR{st:St}(h:TS st):TS (JR st).2/\∀t∈(JR st).1,Ot t:=by
 unfold Th.JR;split
 .refine⟨λt ht=>h t ((IH _).subset ht),λt ht=>?_⟩;have ha:(st.rest.takeWhile λt:Tok=>t.k == 2).all (λt=>t.k == 2)=true:=IE;have hk:t.k=2:=by simpa using List.all_eq_true.1 ha t ht
  exact⟨hk,(h t ((U4 _).subset ht)).1 hk⟩
 .exact⟨h,by simp⟩
theorem TS.Kv{st:St}(a b:Nat)(h:TS st):TS (Kv a b st).2/\((Kv a b st).2.bad=none->a<=(Kv a b st).1):=by
 unfold Th.Kv;split
 .next hk=>simp only[OR,tY]at hk;exact⟨h.qM,λ_=>hk.1.2⟩
 .exact⟨h.fail,λhb=>(SI hb).elim⟩
variable {st:St}
theorem zKD{a b:Nat}(h:(Kv a b st).2.bad=none):st.bad=none:=by
 unfold Th.Kv at h;split at h
 .exact OV _ h
 .exact(SI h).elim
def QK (q:Ex × St):Prop:=TS q.2/\(q.2.bad=none->Mk q.1)
def PW (ex:Rd):Prop:=∀c st q,ex c st=some q->TS st->QK q
variable {q:Ex × St}
theorem zKW(hx:PW ex)(h:NZ ex st=some q)(ht:TS st):QK q:=by
 unfold NZ at h;split at h
 .next hk=>cases h;unfold St.kind at hk;simp only[OR,uq]at hk;exact⟨ht.qM,λ_=>.name ⟨hk.2,ht.hd.1 hk.2⟩⟩
 .split at h
  .next hk=>cases h;unfold St.kind at hk;simp only[OR,uq]at hk;exact⟨ht.qM,λ_=>.num (ht.hd.2.1 hk.2)⟩
  .split at h
   .cases h;have a1:=TS.Kv 1 99 ht.qM;have a2:=TS.Kv 0 9 (a1.1.want [44]);exact⟨a2.1.want _,λhb=>.make (a1.2 (MI _ _ (zKD (MI _ _ hb)))) (Vm _ _ _) (Vm _ _ _)⟩
   .split at h
    .simp only[JM,IA]at h;obtain⟨r,h1,rfl⟩:=h;have m:=hx _ _ _ h1 ht.qM;exact⟨m.1.want _,λhb=>m.2 (MI _ _ hb)⟩
    .cases h;exact⟨ht.fail,λhb=>(SI hb).elim⟩
theorem zJ9{ex:Rd}(hx:PW ex)(hk:MJ ex):∀(k:Nat)(e:Ex)(st:St)(q:Ex × St),Of ex k e st=some q->TS st->(st.bad=none->Mk e)->QK q
 |0,_,_,_,h,_,_=>by simp[Of]at h
 |k+1,e,st,q,h,ht,he=>by
  rw[Of]at h;split at h
  .simp only[JM]at h;obtain⟨r,h1,h2⟩:=h;have m:=zKW hx h1 ht;exact zJ9 hx hk k _ _ _ h2 m.1 (λhb=>.call (he (Yq hk h1 hb)) (m.2 hb))
  .cases h;exact⟨ht,he⟩
variable {k:Nat}
theorem zKX(hx:PW ex)(hk:MJ ex)(h:OZ ex k st=some q)(ht:TS st):QK q:=by unfold OZ at h;simp only[JM]at h;obtain⟨r,h1,h2⟩:=h;have m:=zKW hx h1 ht;exact zJ9 hx hk k _ _ _ h2 m.1 m.2
theorem TS.MM{st:St}{a b:List UInt8}(ht:TS st)(hi:(st.is a||st.is b)=true)(ha:a∈Th.MM)(hb:b∈Th.MM):st.hd.k=4/\st.hd.s∈Th.MM:=by
 have:st.hd.s∈Th.MM:=by
  simp only[U7]at hi;rcases hi with hi|hi
  .rw[Vn hi];exact ha
  .rw[Vn hi];exact hb
 exact⟨ht.hd.2.2 this,this⟩
theorem zKx{sub:St->Option (Ex × St)}(hs:∀st q,sub st=some q->TS st->QK q)(hk:∀st q,sub st=some q->q.2.bad=none->st.bad=none){a b:List UInt8}(ha:a∈MM)(hb:b∈MM):
  ∀(k:Nat)(e:Ex)(st:St)(q:Ex × St),Nk sub a b k e st=some q->TS st->(st.bad=none->Mk e)->QK q
 |0,_,_,_,h,_,_=>by simp[Nk]at h
 |k+1,e,st,q,h,ht,he=>by
  rw[Nk]at h;split at h
  .next hi=>simp only[JM]at h;obtain⟨r,h1,h2⟩:=h;have m:=hs _ _ h1 ht.qM;obtain⟨s1,s2⟩:=ht.MM hi ha hb;exact zKx hs hk ha hb k _ _ _ h2 m.1 (λaQ=>.op s1 s2 (he (OV _ (hk _ _ h1 aQ))) (m.2 aQ))
  .cases h;exact⟨ht,he⟩
theorem zJm(hx:PW ex)(hk:MJ ex)(h:Px ex k st=some q)(ht:TS st):QK q:=by unfold Px at h;simp only[JM]at h;obtain⟨r,h1,h2⟩:=h;have m:=zKX hx hk h1 ht;exact zKx (λ_ _ a b=>zKX hx hk a b) (λ_ _ a=>Yr hk _ _ _ a) (by decide) (by decide) k _ _ _ h2 m.1 m.2
theorem zLM(hx:PW ex)(hk:MJ ex)(h:PD ex k st=some q)(ht:TS st):QK q:=by unfold PD at h;simp only[JM]at h;obtain⟨r,h1,h2⟩:=h;have m:=zJm hx hk h1 ht;exact zKx (λ_ _ a b=>zJm hx hk a b) (λ_ _ a=>Yg hk _ _ _ a) (by decide) (by decide) k _ _ _ h2 m.1 m.2
theorem zMp(hx:PW ex)(hk:MJ ex)(h:Py ex k st=some q)(ht:TS st):QK q:=by
 unfold Py at h;simp only[JM]at h;obtain⟨r,h1,h2⟩:=h;have m:=zLM hx hk h1 ht;split at h2
 .next hi=>simp only[JM,IA]at h2;obtain⟨p,h3,rfl⟩:=h2;have m2:=zLM hx hk h3 m.1.qM;obtain⟨s1,s2⟩:=m.1.MM hi (by decide) (by decide);exact⟨m2.1,λhb=>.op s1 s2 (m.2 (OV _ (W6 hk _ _ _ h3 hb))) (m2.2 hb)⟩
 .cases h2;exact m
theorem Wv{α:Type}{P:α->Prop}{l:List α}{x:α}(h:∀y∈l,P y)(hx:P x):∀y∈l++[x],P y:=λy hy=>by
 rcases Ni.1 hy with hy|hy
 .exact h y hy
 .rw[NA.1 hy];exact hx
theorem zJ8{ex:Rd}(hx:PW ex)(hk:MJ ex):∀(k:Nat)(l:List Tok)(es:List Ex)(st:St)(q:List Tok × List Ex × St),NH ex k l es st=some q->TS st->es.length=l.length->(st.bad=none->(∀t∈l,Ot t)/\∀e∈es,Mk e) ->
  TS q.2.2/\q.1≠[]/\q.2.1.length=q.1.length/\(q.2.2.bad=none->(∀t∈q.1,Ot t)/\∀e∈q.2.1,Mk e)
 |0,_,_,_,_,h,_,_,_=>by simp[NH]at h
 |k+1,l,es,st,q,h,ht,hl,he=>by
  rw[NH]at h;simp only[JM]at h;obtain⟨r,h1,h2⟩:=h;have n:=ht.IG;have m:=hx _ _ _ h1 (n.1.want _);have hs:r.2.bad=none->(∀t∈l++[(IG st).1],Ot t)/\∀e∈es++[r.1],Mk e:=λhb=>by have b1:=MI _ _ (hk _ _ _ h1 hb);obtain⟨x1,x2⟩:=he (Ss _ b1);exact⟨Wv x1 (n.2 b1),Wv x2 (m.2 hb)⟩
  have aC:(es++[r.1]).length=(l++[(IG st).1]).length:=by simp[hl]
  split at h2
  .exact zJ8 hx hk k _ _ _ _ h2 m.1.qM aC (λhb=>hs (OV _ hb))
  .cases h2;exact⟨m.1,by simp,aC,hs⟩
variable {c:Bool}
theorem zM0(hx:PW ex)(hk:MJ ex)(h:Qv ex k c st=some q)(ht:TS st):QK q:=by
 unfold Qv at h;simp only[JM,IA]at h;obtain⟨r,h1,p,h2,rfl⟩:=h;have h0:TS (if st.is Na then st.qM else st):=by
  split
  .exact ht.qM
  .exact ht
 obtain⟨a1,a2,a3,a4⟩:=zJ8 hx hk k _ _ _ _ h1 h0 rfl (λ_=>⟨by simp,by simp⟩);have m:=hx _ _ _ h2 (a1.want _);exact⟨m.1,λhb=>by have:=a4 (MI _ _ (hk _ _ _ h2 hb));exact .lt a2 a3 this.1 this.2 (m.2 hb)⟩
def Q8 (a:Nat × List Tok):Prop:=1<=a.1/\a.1<=99/\∀t∈a.2,Ot t
theorem zMY(hx:PW ex)(hk:MJ ex){q:(Nat × List Tok) × Ex × St}(h:PC ex c st=some q)(ht:TS st):TS q.2.2/\(q.2.2.bad=none->Q8 q.1/\Mk q.2.1):=by unfold PC at h;simp only[JM,IA]at h;obtain⟨r,h1,rfl⟩:=h;have a1:=TS.Kv 1 99 (ht.want [60]);have a2:=(a1.1.want [62]).JR;have m:=hx _ _ _ h1 (a2.1.want _);exact⟨m.1,λhb=>⟨⟨a1.2 (MI _ _ (RO _ (MI _ _ (hk _ _ _ h1 hb)))),Vm _ _ _,a2.2⟩,m.2 hb⟩⟩
theorem zKV{ex:Rd}(hx:PW ex)(hk:MJ ex)(c:Bool):∀(k:Nat)(l:List (Nat × List Tok))(es:List Ex)(st:St)(q:List (Nat × List Tok) × List Ex × St),NI ex c k l es st=some q->TS st->es.length=l.length->(st.bad=none->(∀a∈l,Q8 a)/\∀e∈es,Mk e) ->
  TS q.2.2/\q.1≠[]/\q.2.1.length=q.1.length/\(q.2.2.bad=none->(∀a∈q.1,Q8 a)/\∀e∈q.2.1,Mk e)
 |0,_,_,_,_,h,_,_,_=>by simp[NI]at h
 |k+1,l,es,st,q,h,ht,hl,he=>by
  rw[NI]at h;simp only[JM]at h;obtain⟨r,h1,h2⟩:=h;obtain⟨m1,m2⟩:=zMY hx hk h1 ht;have hs:r.2.2.bad=none->(∀a∈l++[r.1],Q8 a)/\∀e∈es++[r.2.1],Mk e:=λhb=>by obtain⟨x1,x2⟩:=he (Vv hk h1 hb);exact⟨Wv x1 (m2 hb).1,Wv x2 (m2 hb).2⟩
  have aC:(es++[r.2.1]).length=(l++[r.1]).length:=by simp[hl]
  split at h2
  .exact zKV hx hk c k _ _ _ _ h2 m1.qM aC (λhb=>hs (OV _ hb))
  .cases h2;exact⟨m1,by simp,aC,hs⟩
theorem zMo(hx:PW ex)(hk:MJ ex)(h:Qr ex k c st=some q)(ht:TS st):QK q:=by unfold Qr at h;simp only[JM,IA]at h;obtain⟨r,h1,p,h2,rfl⟩:=h;have m:=hx _ _ _ h1 ht;obtain⟨a1,a2,a3,a4⟩:=zKV hx hk c k _ _ _ _ h2 (m.1.want _) rfl (λ_=>⟨by simp,by simp⟩);exact⟨a1,λhb=>.cs a2 a3 (a4 hb).1 (a4 hb).2 (m.2 (MI _ _ (Yp hk c k _ _ _ _ h2 hb)))⟩
theorem zMZ(hx:PW ex)(hk:MJ ex)(h:Qu ex c st=some q)(ht:TS st):QK q:=by
 unfold Qu at h;simp only[JM,IA]at h;obtain⟨r,h1,rfl⟩:=h;have n:=ht.IG;have n2:=n.1.JR;have m:=hx _ _ _ h1 (n2.1.want _);refine⟨m.1,λhb=>.fn (by simp) (λt h=>?_) (m.2 hb)⟩;rcases Mz.1 h with rfl|h
 .exact n.2 (RO _ (MI _ _ (hk _ _ _ h1 hb)))
 .exact n2.2 t h
theorem zMn(hx:PW ex)(hk:MJ ex)(k:Nat):PW (NU ex k):=by
 intro c st q h ht;unfold NU at h;split at h
 .exact zM0 hx hk h ht.qM
 .split at h
  .exact zMo hx hk h ht.qM
  .split at h
   .exact zMZ hx hk h ht.qM
   .exact zMp hx hk h ht
theorem zKY:∀n,PW (Mn n)
 |0=>λ_ _ _ h=>by simp[Mn]at h
 |n+1=>zMn (zKY n) (Ux n) n
def Tf (x:By):Prop:=Ot x.name/\(∀t∈x.params,Ot t)/\Mk x.e
theorem zKa{n:Nat}:∀(k:Nat)(l:List By)(st:St)(q:List By × St),N7 (Mn n) k l st=some q->TS st->(st.bad=none->∀x∈l,Tf x)->q.2.bad=none->∀x∈q.1,Tf x
 |0,_,_,_,h,_,_,_=>by simp[N7]at h
 |k+1,l,st,q,h,ht,hl,hb=>by
  rw[N7]at h;split at h
  .simp only[JM]at h;obtain⟨r,h1,h2⟩:=h;unfold Qs at h1;simp only[JM,IA]at h1;obtain⟨p,h3,rfl⟩:=h1;have n1:=ht.IG;have n2:=n1.1.JR;have m:=zKY n _ _ _ h3 (n2.1.want _);refine zKa k _ _ _ h2 (m.1.want _) (λaw=>?_) hb;have hp:=MI _ _ aw;have b1:=RO _ (MI _ _ (Ux n _ _ _ h3 hp));exact Wv (hl (Ss _ b1)) ⟨n1.2 b1,n2.2,m.2 hp⟩
  .cases h;exact hl hb
end Th
end
section
open Go.RowKit
namespace Th
def Mj (l:List Tok):List UInt8:=l.foldl (λs t=>s++([32]++t.s)) []
def level (e:Ex):Nat:=
 if e.kind=5 then 4
 else if e.kind=6 then(if e.tok.s=[42]\/e.tok.s=[47]then 3 else if e.tok.s=[43]\/e.tok.s=[45]then 2 else 1)
 else if e.kind<=3 then 5 else 0
def ends:Nat->Ex->Bool
 |0,_=>false
 |n+1,e=>if e.kind=9 then true else if e.kind=4\/e.kind=7\/e.kind=8 then ends n (e.kids.headD Mw)else false
def paren (s:List UInt8):List UInt8:=[40]++s++[41]
def within (e:Ex) (least:Nat) (s:List UInt8):List UInt8:=if level e<least then paren s else s
def Rw (t:Tok) (s:List UInt8):List UInt8:=t.s++[32,61,32]++s
def PG (a:Nat × List Tok) (s:List UInt8):List UInt8:=[60]++Lib.decDigits a.1++[62]++Mj a.2++[32,45,62,32]++s
def Pn (op last:Bool) (s:List UInt8):List UInt8:=if !last && op then paren s else s
def MC:List (List UInt8)->List UInt8
 |[]=>[]
 |x::r=>r.foldl (λs y=>s++[59,32]++y) x
def MS (Ky:Ex->List UInt8):List Tok->List Ex->List (List UInt8)
 |t::l,e::es=>Rw t (Ky e)::MS Ky l es
 |_,_=>[]
def MT (Ky:Ex->List UInt8) (en:Ex->Bool):List (Nat × List Tok)->List Ex->List (List UInt8)
 |a::l,e::es=>PG a (Pn (en e) l.isEmpty (Ky e))::MT Ky en l es
 |_,_=>[]
def text:Nat->Ex->List UInt8
 |0,_=>[]
 |n+1,e=>
  if e.kind=1 then Lib.itoa e.n
  else if e.kind=2 then e.tok.s
  else if e.kind=3 then[123]++Lib.decDigits e.tag++[44]++Lib.decDigits e.arity++[125]
  else if e.kind=4 then[92]++(Mj e.names).tail++[46,32]++text n (e.kids.headD Mw)
  else if e.kind=5 then within (e.kids.headD Mw) 4 (text n (e.kids.headD Mw))++[32]++within (e.kids.tail.headD Mw) 5 (text n (e.kids.tail.headD Mw))
  else if e.kind=6 then within (e.kids.headD Mw) (max (level e) 2) (text n (e.kids.headD Mw))++[32]++e.tok.s++[32]++within (e.kids.tail.headD Mw) (level e+1) (text n (e.kids.tail.headD Mw))
  else if e.kind=9 then[99,97,115,101,32]++text n (e.kids.headD Mw)++[32,111,102,32]++MC (MT (text n) (ends n) e.nA e.kids.tail)
  else(if e.kind=8 then[108,101,116,32,114,101,99,32]else[108,101,116,32])++MC (MS (text n) e.names e.kids.tail)++[32,105,110,32]++text n (e.kids.headD Mw)
def Pa (n:Nat) (x:By):List UInt8:=x.name.s++Mj x.params++[32,61,32]++text n x.e++[59,10]
def Md (n:Nat) (l:List By):List UInt8:=l.foldl (λs x=>s++Pa n x) []
theorem zJx(l:List Tok)(t:Tok):Mj (l++[t])=Mj l++([32]++t.s):=by simp[Mj]
theorem zIy(n:Nat)(l:List By)(x:By):Md n (l++[x])=Md n l++Pa n x:=by simp[Md]
theorem zKK{l:List Tok}{i:Nat}{t:Tok}(h:l[i]?=some t):Mj (l.take (i+1))=Mj (l.take i)++([32]++t.s):=by rw[T9,h];exact zJx _ _
theorem zKJ(t:Tok)(l:List Tok):∃r,Mj (t::l)=32::(t.s++r):=by
 unfold Mj;simp only[NV,MQ];have h:∀(l:List Tok)(a:List UInt8),∃r,l.foldl (λs t=>s++([32]++t.s)) a=a++r:=by
  intro l
  induction l with
  |nil=>exactλa=>⟨[],by simp⟩
  |cons y l ih=>intro a;obtain⟨r,hr⟩:=ih (a++([32]++y.s));exact⟨[32]++y.s++r,by rw[NV,hr];simp⟩
 obtain⟨r,hr⟩:=h l ([32]++t.s);exact⟨r,by rw[hr];simp⟩
theorem ZR(Ky:Ex->List UInt8):∀(l:List Tok)(es:List Ex),es.length=l.length->(MS Ky l es).length=l.length
 |[],[],_=>rfl
 |_::l,_::es,h=>by simp only[MS,Kh];rw[ZR Ky l es (by simpa using h)]
 |[],_::_,h=>by simp at h
 |_::_,[],h=>by simp at h
theorem zIX(Ky:Ex->List UInt8):∀(l:List Tok)(es:List Ex)(i:Nat)(t:Tok)(e:Ex),l[i]?=some t->es[i]?=some e->(MS Ky l es)[i]?=some (Rw t (Ky e))
 |[],_,_,_,_,h,_=>by simp at h
 |_::_,[],_,_,_,_,h=>by simp at h
 |a::l,b::es,0,t,e,h1,h2=>by simp only[Pk,IA]at h1 h2;subst h1 h2;rfl
 |a::l,b::es,i+1,t,e,h1,h2=>by simp only[R7]at h1 h2;simp only[MS,R7];exact zIX Ky l es i t e h1 h2
theorem ZM(Ky:Ex->List UInt8)(en:Ex->Bool):∀(l:List (Nat × List Tok))(es:List Ex),es.length=l.length->(MT Ky en l es).length=l.length
 |[],[],_=>rfl
 |_::l,_::es,h=>by simp only[MT,Kh];rw[ZM Ky en l es (by simpa using h)]
 |[],_::_,h=>by simp at h
 |_::_,[],h=>by simp at h
theorem ZL(Ky:Ex->List UInt8)(en:Ex->Bool):∀(l:List (Nat × List Tok))(es:List Ex)(i:Nat)(a:Nat × List Tok)(e:Ex),l[i]?=some a->es[i]?=some e->(MT Ky en l es)[i]?=some (PG a (Pn (en e) (decide (i+1=l.length)) (Ky e)))
 |[],_,_,_,_,h,_=>by simp at h
 |_::_,[],_,_,_,_,h=>by simp at h
 |b::l,c::es,0,a,e,h1,h2=>by simp only[Pk,IA]at h1 h2;subst h1 h2;cases l<;>simp[MT]
 |b::l,c::es,i+1,a,e,h1,h2=>by simp only[R7]at h1 h2;simp only[MT,R7,Kh];rw[ZL Ky en l es i a e h1 h2];simp
end Th
end
end Go.Proofs.YtgahgkddaljmkaaGreatDoor
