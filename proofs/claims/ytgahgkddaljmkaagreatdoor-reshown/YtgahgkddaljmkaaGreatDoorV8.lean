/- Cmp4 .. Cmp13 -/
import Derived.Test.YtgahgkddaljmkaaGreatDoorV7
set_option maxRecDepth 100000
set_option maxHeartbeats 4000000
namespace Go.Proofs.YtgahgkddaljmkaaGreatDoor
open Tryz Th Cp
section
open Go.RowKit Go.Shelf
attribute [local go_sem ↓] Go.wp_at_zero Go.wp_at_succ
attribute [local go_sem] Oper.semAt_some
variable {i:Nat}{v:Value}
theorem zjY{l:List (List UInt8)}(h:(strCells l)[i]?=some v):∃x,l[i]?=some x/\v=.string ⟨x.toArray⟩:=by unfold strCells at h;rw[IP,M9]at h;obtain⟨x,h1,h2⟩:=h;exact⟨x,h1,h2.symm⟩
theorem Yj(l:List (List UInt8)):(strCells l).length=l.length:=by simp[strCells]
variable {w:World}{sv:Value}{n:Nat}{e:TypeId}{xs:List Value}
theorem Pc(h:w.ownsRow 0 e 1 sv n xs):∃sp cap g,sv=.slice sp n cap/\xs.length=n/\(0<n->sp=some ⟨g,0,none⟩)/\(0<n->sv.ownBlock=some g)/\∀j v,xs[j]?=some v->w.cell? ⟨g,j,none⟩=some v:=by
 obtain⟨h1,h2⟩:=h;rcases h2 with⟨rfl,rfl⟩|⟨g,cap,cur,rfl,hg,hb,r⟩
 .refine⟨none,0,0,rfl,by simpa using h1,λh=>absurd h (by omega),λh=>absurd h (by omega),λj v hv=>?_⟩;have:=(Dq.1 hv).1;omega
 .refine⟨some ⟨g,0,none⟩,cap,g,rfl,by simpa using h1,λ_=>rfl,λ_=>rfl,λj v hv=>?_⟩;have hc:w.ownsRow 0 e 1 (.slice (some ⟨g,0,none⟩) n cap) n xs:=⟨h1,.inr ⟨g,cap,cur,rfl,hg,hb,r⟩⟩;have:=hc.cells (g:=g) rfl j v hv;simpa[Pf]using this
def TB (kD:List Cp.Nm) (x:Cp.Nm):Int:=match Nu kD x with|some i=>i|none=>-1
theorem zsH(a b:List UInt8):((⟨a.toArray⟩:ByteArray).toList == (⟨b.toArray⟩:ByteArray).toList)=(a == b):=by rw[mG,mG]
variable {kD:List Cp.Nm}{x:Cp.Nm}
theorem zrY{c:Nat}(h:kD[c]?=some x):Ph kD x (c+1)=some c:=by rw[Ph,nB h]
theorem zpQ{c:Nat}(h:¬kD[c]?=some x):Ph kD x (c+1)=Ph kD x c:=by rw[Ph,pL h]
variable {base:Nat}{W:World}
theorem Yx{d:Nat}(h:W.heap[d]?=some (.deferred (some [])))(hb:base<=d:=by omega):Marks base W [{ target:=.collected d,args:=#[] }]:=
 ⟨[d],rfl,by simp,λd' iH=>by simp only[Mz,PV,qT]at iH;subst iH;exact⟨hb,h⟩⟩
variable {Z:Nat->Prop}{cb bb:Nat}{rv kv:Value}{fns:List Cp.Nm}{q:Bs}
theorem zok(h:BS Z w cb bb rv sv kv fns q)(x:Cp.Nm)(hl:q.kD.length<=1000000000):
  Calls prog 149 #[.pointer (some ⟨bb,0,none⟩),.string ⟨x.toArray⟩] w λe w'=>e=.returned (.int .i64 (TB q.kD x))/\Fr (λ_=>False) w w':=by
 obtain⟨sp,cap,g,bA,dk,eB,jr,aN⟩:=Pc h.Og;have c1:=al h.Kq 1;simp at c1;have cV:=h.Kq.lt;subst bA;have fX:0<q.kD.length->g<w.heap.size:=λh0=>h.slt g (jr h0)
 have qm:=eu aN;have Cd:=eu fX;have eg:=enters_of (P:=prog) func257 (by kernel_rfl) rfl;have HE:=eu eg;clear h aN fX jr eg;refine callsIn_wide.1 (callsIn_of_wp_marks (n:=5) func149 rfl trivial (wpIn_wide.2 ?_) rfl);simp only[ntmps149,O3,Kh,My,Nat.reduceAdd,Nat.reduceSub,QX,QY,Q0,QZ,MQ,MP];obtain⟨Q,hQ⟩:∃Q,bodyPostM Fence.wide 5 prog Tryz.f149 (λe w'=>e=.returned (.int .i64 (TB q.kD x))/\Fr (λ_=>False) w w')=Q:=⟨_,rfl⟩;have HQ:=eu hQ;rw[hQ];clear hQ;have n0:w.heap.size≠bb:=by omega
 have n1:w.heap.size+1≠bb:=by omega
 go_wp2_with fail;refine(znr sp q.kD.length cap _).mono ?_;rintro e w2⟨rfl,aB⟩;simp only[gM]at aB|-;have F2:Hid (Fr (λ_=>False) w w2):=eu (by rw[aB];exact(((eU _ _).alloc _).alloc _).alloc _);have BN:Hid (oH w2 w.heap.size [.string ⟨x.toArray⟩] 9):=eu (by rw[aB];exact gd (K:=λ_=>False) (gH w [.string ⟨x.toArray⟩] 9) (((eU _ _).alloc _).alloc _));have BR:Hid (oH w2 (w.heap.size+1) [.int .i64 0] 3):=eu (by rw[aB];have:=gH (w.alloc (.cells #[.string ⟨x.toArray⟩] 9)) [.int .i64 0] 3;rw[gM]at this;exact gd (K:=λ_=>False) this ((eU _ _).alloc _))
 have BB:Hid (oH w2 (w.heap.size+2) [.slice sp q.kD.length cap] 38):=eu (by rw[aB];have:=gH ((w.alloc (.cells #[.string ⟨x.toArray⟩] 9)).alloc (.cells #[.int .i64 0] 3)) [.slice sp q.kD.length cap] 38;rw[gM,gM]at this;exact this)
 have mB:Hid (w2.heap.size=w.heap.size+3):=eu (by rw[aB];simp);clear aB c1 n0 n1;go_wp2_with fail;have dJ:(strCells q.kD).length=q.kD.length:=Yj _;have l9:Iter 257 (w.heap.size+2) cap sp g (strCells q.kD):=λl J Jr hY hJc W h0=>znq l _ cap sp g (strCells q.kD) (by omega) (λh0=>eB (by omega)) J Jr hY hJc W h0
 obtain⟨J,hJ⟩:∃J:Nat->World->Prop,∀i W,J i W↔(Fr (λ_=>False) w2 W/\i<=q.kD.length/\Ph q.kD x (q.kD.length-i)=Nu q.kD x):=⟨_,λ_ _=>P2⟩;obtain⟨Jr,zN⟩:∃Jr:World->Prop,∀W,Jr W↔(Fr (λk=>k=w.heap.size+1) w2 W/\∃c:Nat,Nu q.kD x=some c/\oH W (w.heap.size+1) [.int .i64 c] 3):=⟨_,λ_=>P2⟩;have HJ:=eu hJ;have ud:=eu zN;clear hJ zN;refine zp9 HE.o l9 rfl J Jr ?hall ?hput ?hputr ?h0 ?hJc ?hround ?hdone ?hret
 case hall=>exactλi W o hW=>(HJ.o _ _).2 ⟨((HJ.o _ _).1 hW).1.alloc _,((HJ.o _ _).1 hW).2⟩
 case hput=>exactλi W l xo o hW hl hx hc=>(HJ.o _ _).2 ⟨((HJ.o _ _).1 hW).1.putObj _ hl,((HJ.o _ _).1 hW).2⟩
 case hputr=>intro W l xo o hW hl hx hc;obtain⟨h1,c,h2,h3⟩:=(ud.o W).1 hW;exact(ud.o _).2 ⟨h1.putObj _ hl,c,h2,h3.putObj hx hc _⟩
 case h0=>exact(HJ.o _ _).2 ⟨eU _ _,Kc _,rfl⟩
 case hJc=>
  intro i W hW;obtain⟨h1,h2,h3⟩:=(HJ.o i W).1 hW;refine⟨?_,λj v hv=>?_⟩
  .rw[dJ];simpa using al (gd BB.o h1) 0
  .have h4:=qm.o j v hv;have hj:=(Dq.1 hv).1;exact(kI (a:=⟨g,j,none⟩) (w:=w) ((F2.o.trans h1).block g (Cd.o (by omega)) (by simp))).trans h4
 case hdone=>
  intro W hW hD;obtain⟨h1,h2,h3⟩:=(HJ.o _ W).1 hW;have aK:Nu q.kD x=none:=by rw[<-h3,dJ,Uc];rfl
  have bA:TB q.kD x=-1:=by unfold TB;rw[aK]
  have oo:=eu (gd BR.o h1);have r0:=al oo.o 0;have rf:=ku oo.o 0;simp at r0;have H1:=eu h1;have HD:=eu hD;clear h1 h2 h3 hD;go_wp2_with fail;rw[<-HQ.o];have aI:=mB.o;refine Vh (base:=w.heap.size) (I:=λW'=>Fr (λ_=>False) w W'/\oH W' (w.heap.size+1) [.int .i64 (-1)] 3) (by simp) (λW' d bQ hd iX=>⟨bQ.1.putObj _ hd,bQ.2.putObj iX (by simp) _⟩) (λW' bQ=>?_) (Yx ?_) ⟨(F2.o.trans H1.o).set _ _ (.inr (UZ _)),oo.o.set 0 _⟩
  .have r:=al bQ.2 0;simp at r;refine⟨.int .i64 (-1),?_,by rw[bA],bQ.1⟩;simp[results,Tryz.results149,go_sem,r]
  .rw[Below.heap_setCell _ _ _ _ (by simp;omega)];exact HD.o
 case hret=>
  intro W hW hD;obtain⟨h1,c,h2,h3⟩:=(ud.o W).1 hW;have bA:TB q.kD x=c:=by unfold TB;rw[h2]
  show Q _ _ _;rw[<-HQ.o];have aI:=mB.o;refine Vh (base:=w.heap.size) (I:=λW'=>Fr (λ_=>False) w W'/\oH W' (w.heap.size+1) [.int .i64 c] 3) (by simp) (λW' d bQ hd iX=>⟨bQ.1.putObj _ hd,bQ.2.putObj iX (by simp) _⟩) (λW' bQ=>?_) (Yx hD) ⟨F2.o.drop h1 (λi hi=>by omega),h3⟩;have r:=al bQ.2 0;simp at r;refine⟨.int .i64 c,?_,by rw[bA],bQ.1⟩;simp[results,Tryz.results149,go_sem,r]
 case hround=>
  intro l i c v W hJ oU hv;obtain⟨y,hy,rfl⟩:=zjY hv;rw[dJ]at oU;have CQ:Hid (∀W2,J i W2->Ph q.kD x (c+1)=Nu q.kD x):=eu (λW2 h2=>by
   obtain⟨_,_,h3⟩:=(HJ.o i W2).1 h2
   rwa [show q.kD.length-i=c+1 by omega]at h3)
  have zg:=eu hy;clear hv hJ hy;simp only[MV,NK,Nh]
  gi_wp2
  refine⟨trivial,?_⟩;intro W2 h2 hD ma;obtain⟨h1,hi,h3⟩:=(HJ.o i W2).1 h2;have mU:=CQ.o W2 h2;have b0:W2.cell? ⟨w.heap.size,0,none⟩=some (.string ⟨x.toArray⟩):=by simpa using al (gd BN.o h1) 0
  have oo:=eu (gd BR.o h1);have r0:=al oo.o 0;have rf:=ku oo.o 0;simp at r0;have qI:=eu mU;have H1:=eu h1;have aI:=mB.o;have qy:Hid (∀u:Value,(W2.setCell ⟨w.heap.size+1,0,none⟩ u).heap[w2.heap.size]?=W2.heap[w2.heap.size]?/\(W2.setCell ⟨w.heap.size+1,0,none⟩ u).heap[w2.heap.size+1]?=W2.heap[w2.heap.size+1]?):=
   eu (λu=>⟨Below.heap_setCell _ _ _ _ (by simp;omega),Below.heap_setCell _ _ _ _ (by simp;omega)⟩)
  clear aI mU h1 h3 h2 hD ma;have Af:=zsH y x;by_cases nh:y=x
  .subst nh;rw[show(y == y)=true by simp]at Af
   gi_wp2
   refine⟨(ud.o _).2 ⟨(H1.o.mono (λ_ h=>h.elim)).set _ _ (.inl rfl),c,?_,oo.o.set 0 _⟩,qy.o _⟩;rw[<-qI.o];exact zrY zg.o
  .have aw:(y == x)=false:=by simpa using nh
   rw[aw]at Af;have bD:((⟨y.toArray⟩:ByteArray)=⟨x.toArray⟩)=False:=by simp only[eq_iff_iff,iff_false];intro e;exact nh (by simpa using qz (λb:ByteArray=>b.data.toList) e)
   gi_wp2
   refine⟨(HJ.o _ _).2 ⟨H1.o,by omega,?_⟩,rfl,rfl⟩;rw[show q.kD.length-(i+1)=c by omega,<-qI.o];refine(zpQ ?_).symm;rw[zg.o];simpa using nh
variable {K:Nat->Prop}{w':World}{size:Nat}
theorem Row.Oq(h:Row Z w e size v n xs)(f:Fr K w w')(hK:∀k cs t z,w.heap[k]?=some (.cells cs t z)->¬K k:=by simp):Row Z w' e size v n xs:=by
 refine⟨?_,h.2⟩;obtain⟨⟨h1,h2⟩,_⟩:=h;refine⟨h1,?_⟩;rcases h2 with h2|⟨g,cap,cur,hv,hg,hb,r⟩
 .exact .inl h2
 .exact .inr ⟨g,cap,cur,hv,hg,by rw[f.block g (Nz.1 hb).1 (hK g _ _ _ hb)];exact hb,r⟩
abbrev mq:=@Row.Oq
theorem Vz(h:w.ownsRow 0 e size v n xs)(f:Fr K w w')(hK:∀k cs t z,w.heap[k]?=some (.cells cs t z)->¬K k:=by simp):w'.ownsRow 0 e size v n xs:=
 (mq (Z:=λ_=>True) ⟨h,λ_ _=>trivial⟩ f hK).1
theorem PS.Oq{Z K:Nat->Prop}{w w':World}{v:Value}{i:Ds}(h:PS Z w v i)(f:Fr K w w')(hK:∀k cs t z,w.heap[k]?=some (.cells cs t z)->¬K k):PS Z w' v i:=by cases i<;>first|exact h|(obtain⟨av,h1,h2,h3⟩:=h;exact⟨av,h1,h2.Oq f hK,h3⟩)
theorem QE.Oq{Z K:Nat->Prop}{w w':World}{vs:List Value}{is:List Ds}(h:QE Z w vs is)(f:Fr K w w')(hK:∀k cs t z,w.heap[k]?=some (.cells cs t z)->¬K k):QE Z w' vs is:=
 ⟨h.1,λj v x hv hx=>(h.2 j v x hv hx).Oq f hK⟩
theorem QV.Oq{Z K:Nat->Prop}{w w':World}{v:Value}{is:List Ds}(h:QV Z w v is)(f:Fr K w w')(hK:∀k cs t z,w.heap[k]?=some (.cells cs t z)->¬K k):QV Z w' v is:=by obtain⟨vs,h1,h2⟩:=h;exact⟨vs,h1.Oq f hK,h2.Oq f hK⟩
variable {vs:List Value}
theorem oH.Oq{b:Nat}{t:TypeId}(h:oH w b vs t)(f:Fr K w w')(hK:∀k cs t z,w.heap[k]?=some (.cells cs t z)->¬K k):oH w' b vs t:=gd h f (hK b _ _ _ h)
theorem BS.Oq{Z K:Nat->Prop}{w w':World}{cb bb:Nat}{rv sv kv:Value}{fns:List Cp.Nm}{q:Bs}(h:BS Z w cb bb rv sv kv fns q)(f:Fr K w w')(hK:∀k cs t z,w.heap[k]?=some (.cells cs t z)->¬K k):BS Z w' cb bb rv sv kv fns q:=by obtain⟨fv,bH,bT⟩:=h.OA;obtain⟨cP,dd,cg,jc⟩:=h.OL;obtain⟨vs,cK,aG⟩:=h.Pz;exact⟨⟨fv,bH.Oq f hK,bT.Oq f hK⟩,h.Kq.Oq f hK,⟨cP,dd,Vz cg f hK,λi b cv h1 h2=>(jc i b cv h1 h2).Oq f hK⟩,Vz h.Og f hK,⟨vs,Vz cK f hK,aG.Oq f hK⟩,λk hk=>Kl (h.Ny k hk) f.size,h.zk,h.ne,h.rc,h.sc,h.kc,h.rs,h.rk,h.sk⟩
theorem BS.qR(h:BS Z w cb bb rv sv kv fns q)(f0:Fr (λ_=>False) w w'):BS Z w' cb bb rv sv kv fns q:=h.Oq f0 (by simp)
theorem zhN{k:Nat}(h:w.ownsRow 0 e size v n xs)(hk:v.ownBlock=some k):∃cs t z,w.heap[k]?=some (.cells cs t z):=by
 rcases h.2 with⟨rfl,_⟩|⟨g,cap,cur,rfl,_,hb,_⟩
 .cases hk
 .simp only[Value.ownBlock,IA]at hk;subst hk;exact⟨_,_,_,hb⟩
theorem BS.Vu{k:Nat}(h:BS Z w cb bb rv sv kv fns q)(hk:KL cb bb rv sv kv k):∃cs t z,w.heap[k]?=some (.cells cs t z):=by
 obtain⟨fv,bH,_⟩:=h.OA;obtain⟨cP,_,cg,_⟩:=h.OL;obtain⟨vs,cK,_⟩:=h.Pz;rcases hk with rfl|rfl|e|e|e
 .exact⟨_,_,_,bH⟩
 .exact⟨_,_,_,h.Kq⟩
 .exact zhN cg e
 .exact zhN h.Og e
 .exact zhN cK e
theorem ztT{l:Nat}{x:Obj}(hx:w.heap[l]?=some x)(hc:∀cs t f,x≠.cells cs t f):∀k cs t z,w.heap[k]?=some (.cells cs t z)->¬k=l:=by intro k cs t z hk e;subst e;rw[hk]at hx;cases hx;exact hc _ _ _ rfl
theorem ES.alloc{Z:Nat->Prop}{w w':World}{cb bb:Nat}{rv sv kv:Value}{fns:List Cp.Nm}{q:Bs}(h:ES Z w cb bb rv sv kv fns q w')(o:Obj):ES Z w cb bb rv sv kv fns q (w'.alloc o):=by obtain⟨Z',aO,sv',bG,h1,h2,h3,h4,h5,h6⟩:=h;exact⟨Z',aO,sv',bG,h1,h2.qR ((eU _ _).alloc _),h3.alloc _,h4,h5,h6⟩
theorem ES.putObj{Z:Nat->Prop}{w w':World}{cb bb l:Nat}{rv sv kv:Value}{fns:List Cp.Nm}{q:Bs}(h:ES Z w cb bb rv sv kv fns q w'){x:Obj}(o:Obj)(hl:w.heap.size<=l)(hx:w'.heap[l]?=some x)(hc:∀cs t f,x≠.cells cs t f):ES Z w cb bb rv sv kv fns q (w'.putObj l o):=by obtain⟨Z',aO,sv',bG,h1,h2,h3,h4,h5,h6⟩:=h;have f:Fr (λk=>k=l) w' (w'.putObj l o):=⟨rfl,rfl,rfl,by rw[World.putObj_size];exact qP _,λi _ hi=>World.putObj_heap_other hi⟩;exact⟨Z',aO,sv',bG,h1,h2.Oq f (ztT hx hc),h3.putObj _ hl,h4,h5,h6⟩
theorem ES.qR{w1 w2:World}{q2:Bs}(f0:Fr (λ_=>False) w w1)(d:ES Z w1 cb bb rv sv kv fns q2 w2):ES Z w cb bb rv sv kv fns q2 w2:=
 kU (λ_ _=>P2) (f0.mono (λ_ h=>h.elim)) (kq _ _) (kq _ _) (kq _ _) d
abbrev Hz:=@ES.qR
theorem zyi{a b:List UInt8}:((⟨a.toArray⟩:ByteArray)=⟨b.toArray⟩)↔a=b:=by
 constructor
 .intro e;simpa using qz (λb:ByteArray=>b.data.toList) e
 .rintro rfl;rfl
theorem zls(x:Cp.Nm):∀(l:List Cp.Nm)(i:Nat),x∈l->Lib.idxFromS (l.map λs=>(⟨s.toArray⟩:ByteArray)) ⟨x.toArray⟩ i=((i+l.idxOf x:Nat):Int)
 |[],_,h=>by cases h
 |y::l,i,h=>by
  by_cases nh:y=x
  .subst nh;simp[Lib.idxFromS]
  .have hx:x∈l:=by
    rcases Mz.1 h with e|e
    .exact absurd e.symm nh
    .exact e
   have ih:=zls x l (i+1) hx;have aH:¬((⟨y.toArray⟩:ByteArray)=⟨x.toArray⟩):=λe=>nh (zyi.1 e)
   simp only[Ki,Lib.idxFromS,aH,nt,ih];rw[List.idxOf_cons];simp only[show(y == x)=false by simpa using nh,cond_false];omega
variable {l:List Cp.Nm}
theorem zrX(h:x∈l):Lib.idxOfS (l.map λs=>(⟨s.toArray⟩:ByteArray)) ⟨x.toArray⟩=(l.idxOf x:Int):=by unfold Lib.idxOfS;rw[zls x l 0 h,On]
variable {fv:Value}
theorem znS(h:Row Z w 9 1 fv fns.length (strCells fns))(hl:fns.length<=1000000000)(hx:x∈fns):
  Calls prog 55 #[fv,.string ⟨x.toArray⟩] w λe w'=>e=.returned (.int .i64 (fns.idxOf x:Nat))/\w'=w:=by
 have bp:0<fns.length:=II hx;obtain⟨sp,cap,g,rfl,dk,eB,_,aN⟩:=Pc h.1;rw[eB bp];have e:=Tryz.slices_Index_string g 0 fns.length cap (fns.map λs=>(⟨s.toArray⟩:ByteArray)) ⟨x.toArray⟩ w (by simp) (by omega) (λj hj=>by
  rw[q7]at hj;have h1:(strCells fns)[j]?=some (.string ⟨(fns[j]).toArray⟩):=by simp[strCells,hj]
  have:=aN j _ h1;simpa[hj]using this)
 rw[N8 (by simp),zrX hx]at e;exact e
theorem zuK(h:BS Z w cb bb rv sv kv fns q)(x:Cp.Nm)(IU:Nu q.kD x=none->x∈fns)(hl:q.code.length<=1000000000)(aC:q.kD.length<=1000000000)(cW:fns.length<=1000000000):
  Calls prog 164 #[.pointer (some ⟨bb,0,none⟩),.string ⟨x.toArray⟩] w λe w'=>e=.returned (.tuple #[])/\ES Z w cb bb rv sv kv fns (q.use fns x) w':=by
 have CS:=eu (zok h x aC);have HH:=eu h;clear h;unfold TB at CS;unfold Bs.use;cases hs:Nu q.kD x with
 |some i=>
  rw[hs]at CS;simp only at CS;clear IU hs;have dt:(0:Int)<=(i:Int):=by omega
  go_enter func164,ntmps164;go_wp2_with fail;refine CS.o.mono ?_;rintro e w1⟨rfl,f1⟩;have F1:=eu f1;have CP:=eu (RJ (i:=.push i) (HH.o.qR f1) rfl hl aC);clear f1 CS;go_wp2_with fail;refine CP.o.mono ?_;rintro e w2⟨rfl,D2⟩;have HD:=eu (Hz F1.o D2);clear D2;go_wp2
  first|go_end0|refine Ju rfl rfl ?_
  exact⟨rfl,HD.o⟩
 |none=>
  rw[hs]at CS;simp only at CS;have hx:=IU hs;clear IU hs;go_enter func164,ntmps164;go_wp2_with fail;refine CS.o.mono ?_;rintro e w1⟨rfl,f1⟩;have F1:=eu f1;have aA:=HH.o.qR f1;obtain⟨fv,bH,bT⟩:=aA.OA;have CI:=eu (znS bT cW hx);have b0:=al aA.Kq 0;have d0:=al bH 0;simp at b0 d0;have CP:=eu (RJ (i:=.PM (fns.idxOf x)) aA rfl hl aC);clear f1 CS aA bH bT;go_wp2_with fail;refine CI.o.mono ?_;rintro e w2⟨rfl,aB⟩;subst w2;clear b0 d0 CI;go_wp2_with fail;refine CP.o.mono ?_;rintro e w2⟨rfl,D2⟩;have HD:=eu (Hz F1.o D2);clear D2;go_wp2
  first|go_end0|refine Ju rfl rfl ?_
  exact⟨rfl,HD.o⟩
theorem zjU{kD:List Cp.Nm}{x:Cp.Nm}(hx:x≠[]):∀k,k<=kD.length->Ph (kD++[[]]) x k=Ph kD x k
 |0,_=>rfl
 |k+1,hk=>by rw[Ph,Ph,Pq (by omega),zjU hx k (by omega)]
theorem zpR(hx:x≠[]):Nu (kD++[[]]) x=Nu kD x:=by unfold Nu;rw[IJ,Ng,Ph,pL,zjU hx _ (qP _)];rw[Om (qP _),Uc];simpa using hx
theorem zoR(fns:List Cp.Nm)(q:Bs)(x:Cp.Nm):(q.use fns x).kD=q.kD++[[]]/\(q.use fns x).code.length=q.code.length+1/\(q.use fns x).blocks=q.blocks:=by unfold Bs.use;split<;>simp[Bs.push]
theorem Uu(fns:List Cp.Nm):∀(l:List Cp.Nm)(q:Bs),(l.foldl (Bs.use fns) q).kD.length=q.kD.length+l.length/\(l.foldl (Bs.use fns) q).code.length=q.code.length+l.length/\(∀x,x≠[]->Nu (l.foldl (Bs.use fns) q).kD x=Nu q.kD x)
 |[],q=>⟨rfl,rfl,λ_ _=>rfl⟩
 |y::l,q=>by obtain⟨h1,h2,h3⟩:=Uu fns l (q.use fns y);obtain⟨u1,u2,_⟩:=zoR fns q y;simp only[NV,Kh];refine⟨by rw[h1,u1,IJ,Ng];omega,by rw[h2,u2];omega,λx hx=>?_⟩;rw[h3 x hx,u1,zpR hx]
variable {nv:Value}
theorem WL{names:List Cp.Nm}(h:BS Z w cb bb rv sv kv fns q)(af:Row Z w 9 1 nv names.length (strCells names))(IU:∀x∈names,x≠[]/\(Nu q.kD x=none->x∈fns))(hl:q.code.length+names.length<=1000000000)(aC:q.kD.length+names.length<=1000000000)(cW:fns.length<=1000000000):
  Calls prog 153 #[.pointer (some ⟨bb,0,none⟩),nv] w λe w'=>e=.returned (.tuple #[])/\ES Z w cb bb rv sv kv fns (q.J7 fns names) w':=by
 obtain⟨sp,cap,g,ay,dk,eB,jr,aN⟩:=Pc af.1;subst ay;have AZ:0<names.length->Z g:=λh0=>af.2 g (jr h0)
 have qm:=eu aN;have Dd:=eu AZ;have HE:=eu (enters_of (P:=prog) func257 (by kernel_rfl) rfl);have HH:=eu h;have oz:=eu IU;have cV:=h.Kq.lt;clear h aN AZ jr af IU;refine callsIn_wide.1 (callsIn_of_wp_marks (n:=5) func153 rfl trivial (wpIn_wide.2 ?_) rfl);simp only[ntmps153,O3,Kh,My,Nat.reduceAdd,Nat.reduceSub,QX,QY,Q0,QZ,MQ,MP];obtain⟨Q,hQ⟩:∃Q,bodyPostM Fence.wide 5 prog Tryz.f153 (λe w'=>e=.returned (.tuple #[])/\ES Z w cb bb rv sv kv fns (q.J7 fns names) w')=Q:=⟨_,rfl⟩;have HQ:=eu hQ;rw[hQ];clear hQ;go_wp2_with fail;refine(znr sp names.length cap _).mono ?_;rintro e w2⟨rfl,aB⟩;simp only[gM]at aB|-;have F2:Hid (Fr (λ_=>False) w w2):=eu (by rw[aB];exact((eU _ _).alloc _).alloc _);have qh:Hid (oH w2 w.heap.size [.pointer (some ⟨bb,0,none⟩)] 100):=eu (by rw[aB];exact gd (K:=λ_=>False) (gH w [.pointer (some ⟨bb,0,none⟩)] 100) ((eU _ _).alloc _));have uX:Hid (oH w2 (w.heap.size+1) [.slice sp names.length cap] 38):=eu (by rw[aB];have:=gH (w.alloc (.cells #[.pointer (some ⟨bb,0,none⟩)] 100)) [.slice sp names.length cap] 38;rw[gM]at this;exact this)
 have mB:Hid (w2.heap.size=w.heap.size+2):=eu (by rw[aB];simp);clear aB;go_wp2_with fail;have dJ:(strCells names).length=names.length:=Yj _;have l9:Iter 257 (w.heap.size+1) cap sp g (strCells names):=λl J Jr hY hJc W h0=>znq l _ cap sp g (strCells names) (by omega) (λh0=>eB (by omega)) J Jr hY hJc W h0
 obtain⟨J,hJ⟩:∃J:Nat->World->Prop,∀i W,J i W↔(i<=names.length/\ES Z w2 cb bb rv sv kv fns ((names.drop (names.length-i)).reverse.foldl (Bs.use fns) q) W):=⟨_,λ_ _=>P2⟩;have HJ:=eu hJ;clear hJ;have ga:Hid (∀k,w.heap.size<=k->¬KL cb bb rv sv kv k):=eu (λk hk he=>by
  have h:=HH.o;rcases he with e|e|e|e|e
  .have:=h.Nr;omega
  .omega
  .have:=h.Ns k e;omega
  .have:=h.slt k e;omega
  .have:=h.Pt k e;omega)
 refine zp9 HE.o l9 rfl J (λ_=>False) ?hall ?hput ?hputr ?h0 ?hJc ?hround ?hdone ?hret
 case hall=>exactλi W o hW=>(HJ.o _ _).2 ⟨((HJ.o _ _).1 hW).1,((HJ.o _ _).1 hW).2.alloc _⟩
 case hput=>exactλi W l xo o hW hl hx hc=>(HJ.o _ _).2 ⟨((HJ.o _ _).1 hW).1,((HJ.o _ _).1 hW).2.putObj _ hl hx hc⟩
 case hputr=>exactλ_ _ _ _ h=>h.elim
 case h0=>exact(HJ.o _ _).2 ⟨Kc _,by rw[S0,XC (qP _)];exact ES.refl (HH.o.qR F2.o)⟩
 case hJc=>
  intro i W hW;obtain⟨_,Z',aO,sv',bG,_,_,f3,_⟩:=(HJ.o i W).1 hW;refine⟨?_,λj v hv=>?_⟩
  .rw[dJ];simpa using al (gd uX.o f3 (ga.o _ (by omega))) 0
  .have h4:=qm.o j v hv;have hj:=(Dq.1 hv).1;have hg:=Dd.o (by omega);have fX:=HH.o.Ny g hg;refine(kI (a:=⟨g,j,none⟩) (w:=w) ?_).trans h4;exact(f3.block g (Kl fX F2.o.size) (HH.o.zk g hg)).trans (F2.o.block g fX (by simp))
 case hret=>exactλ_ h=>h.elim
 case hdone=>intro W hW hD;obtain⟨_,hd⟩:=(HJ.o _ W).1 hW;rw[dJ,Uc,Sb]at hd;show Q _ _ _;rw[<-HQ.o];refine Vh (base:=w2.heap.size) (I:=λW'=>ES Z w2 cb bb rv sv kv fns (q.J7 fns names) W') (by simp) (λW' d bQ iH iX=>bQ.putObj _ iH iX (by simp)) (λW' bQ=>?_) (Yx hD (qP _)) hd;exact⟨_,IM rfl _ _ _,rfl,Hz F2.o bQ⟩
 case hround=>
  intro l i c v W hJ oU hv;obtain⟨y,hy,rfl⟩:=zjY hv;rw[dJ]at oU;have yl:=(Dq.1 hy).1;have HY:=eu hy;clear hv hJ hy;simp only[MV,NK,Nh]
  gi_wp2
  refine⟨trivial,?_⟩;intro W2 h2 hD ma;obtain⟨hi,Z',aO,sv',bG,hz,hb,f3,n1,n2,n3⟩:=(HJ.o i W2).1 h2;obtain⟨u1,u2,u3⟩:=Uu fns (names.drop (names.length-i)).reverse q;rw[OO,Oo]at u1 u2;obtain⟨bE,lL⟩:=oz.o y (ML HY.o);have b0:W2.cell? ⟨w.heap.size,0,none⟩=some (.pointer (some ⟨bb,0,none⟩)):=by simpa using al (gd qh.o f3 (ga.o _ (qP _))) 0
  have CU:=eu (zuK hb y (by rw[u3 y bE];exact lL) (by omega) (by omega) cW);have vB:Hid ((names.drop (names.length-(i+1))).reverse.foldl (Bs.use fns) q=Bs.use fns ((names.drop (names.length-i)).reverse.foldl (Bs.use fns) q) y):=eu (by
   have e1:names.length-(i+1)=c:=by omega
   have e2:names.length-i=c+1:=by omega
   rw[e1,e2,Q2 yl,show names[c]=y from(Dq.1 HY.o).2,List.reverse_cons,List.foldl_append];rfl)
  have qy:Hid (∀w6,Fr (KL cb bb aO sv' bG) W2 w6->w6.heap[w2.heap.size]?=W2.heap[w2.heap.size]?/\w6.heap[w2.heap.size+1]?=W2.heap[w2.heap.size+1]?):=eu (λw6 f6=>by
   obtain⟨rl,bd⟩:=ma;refine⟨f6.block _ (Nz.1 hD).1 (λe=>?_),f6.block _ (Nz.1 bd).1 (λe=>?_)⟩
   .obtain⟨_,_,_,h9⟩:=hb.Vu e;rw[hD]at h9;cases h9
   .obtain⟨_,_,_,h9⟩:=hb.Vu e;rw[bd]at h9;cases h9)
  have qp:=eu (kK hi (kK hz (kK f3 (kK n1 (kK n2 n3)))));clear h2 hD ma hi hz hb f3 n1 n2 n3 u1 u2 u3 bE lL
  gi_wp2
  refine⟨trivial,rfl,(Yi CU.o).mono ?_⟩;rintro e w6⟨rfl,D6⟩;have qo:=eu D6;clear D6 b0
  gi_wp2
  refine⟨(HJ.o _ _).2 ⟨by omega,?_⟩,?_⟩
  .rw[vB.o];obtain⟨hi,hz,f3,n1,n2,n3⟩:=qp.o;exact kU hz f3 n1 n2 n3 qo.o
  .obtain⟨_,_,_,_,_,_,f6,_⟩:=qo.o;exact qy.o _ f6
end
section
open Go.RowKit Go.Shelf
attribute [local go_sem ↓] Go.wp_at_zero Go.wp_at_succ
theorem zyB(w:World):(binOp .eql 38 (.slice none 0 0) (.slice none 0 0)).run prog w=.ok (.bool true) w:=by kernel_rfl
theorem zxQ(a:Addr)(n c:Nat)(w:World):(binOp .eql 38 (.slice (some a) n c) (.slice none 0 0)).run prog w=.ok (.bool false) w:=by kernel_rfl
variable {Z:Nat->Prop}{w:World}{nv:Value}{l:List Cp.Nm}
theorem zny(h:Row Z w 9 1 nv l.length (strCells l))(hl:l.length<=1000000):
  Calls prog 147 #[nv] w λe w'=>∃v',e=.returned v'/\w'.ownsRow w.heap.size 9 1 v' l.length (strCells l)/\Fr (λ_=>False) w w':=by
 have HH:=eu h;rcases Mq h with hv|⟨g,cap,hv⟩
 .subst hv;have da:l=[]:=by
   rcases h.1.2 with⟨_,h0⟩|⟨_,_,_,h0,_⟩
   .exact Pl.1 h0
   .cases h0
  subst da;have qn:=zyB;clear h HH;go_enter func147,ntmps147;go_wp2;go_ret;exact⟨_,rfl,kt _ _ _ _,eU _ _⟩
 .subst hv;have qn:=zxQ;clear h;go_enter func147,ntmps147;have HV:Hid ((w.alloc (.cells #[] 9)).ownsRow w.heap.size 9 1 (.slice (some ⟨w.heap.size,0,none⟩) 0 0) ([]:List Cp.Nm).length (strCells [])):=eu ⟨rfl,.inr ⟨w.heap.size,0,#[],rfl,qP _,gH w [] 9,by simp,by simp[maxLen],rfl,rfl⟩⟩;have HX:Hid (Row Z (w.alloc (.cells #[] 9)) 9 1 (.slice (some ⟨g,0,none⟩) l.length cap) l.length (strCells l)):=eu (HH.o.Oq (K:=λ_=>False) ((eU _ _).alloc _) (by simp));go_wp2_with (at_builtin;refine Yo (v:=.slice (some ⟨w.heap.size,0,none⟩) 0 0) (xv:=.slice (some ⟨g,0,none⟩) l.length cap) rfl _ _ rfl (l1:=[]) (l2:=l) (base:=w.heap.size) (S:=Z) rfl rfl HV.o HX.o (by simp) (by omega) (by simp) ?_;intro v' w' ho hg;have HO:=eu ho;have HG:=eu hg;clear ho hg);go_ret;refine⟨v',rfl,HO.o,((eU (λ_=>False) w).alloc (.cells #[] 9)).UT HG.o (λk hk e=>?_)⟩;simp only[Value.ownBlock,IA]at e;omega
def Zj (w0:World) (g gf:Nat) (lb:Array Value) (p:Cp.Nm->Bool):Prop:=
 ∀(W:World)(x:Cp.Nm),Fr (λk=>k=g) w0 W->Calls prog gf (#[.string ⟨x.toArray⟩]++lb) W λe W'=>e=.returned (.bool (p x))/\Fr (λ_=>False) W W'
def Tt (p:Cp.Nm->Bool):List Cp.Nm->Nat->Int
 |[],_=>-1
 |x::l,i=>if p x=true then i else Tt p l (i+1)
variable {g cap:Nat}
theorem zmp{gf:Nat}{lb:Array Value}{p:Cp.Nm->Bool}(eg:∀args w,(callFunc gf args).run prog w=.ok (.enter gf args) w)(hp:Zj w g gf lb p)(h:w.ownsRow 0 9 1 (.slice (some ⟨g,0,none⟩) l.length cap) l.length (strCells l))(hl:l.length<=1000000):
  Calls prog 211 #[.slice (some ⟨g,0,none⟩) l.length cap,.func (.func gf) #[] lb] w λe w'=>e=.returned (.int .i64 (Tt p l 0))/\Fr (λ_=>False) w w':=by
 obtain⟨_,_,g',bA,dk,_,_,aN⟩:=Pc h;have HH:=eu h;have HP:=eu hp;have EG:=eg;clear h hp aN eg;go_enter func211,ntmps211;go_wp2_with fail
 go_loopg [8] l.length (λgk iv wr=>∃i:Nat,iv=.int .i64 i/\i+gk=l.length/\Tt p (l.drop i) i=Tt p l 0/\Fr (λ_=>False) w wr)
 case atStart=>exact⟨0,rfl,by omega,rfl,eU _ _⟩
 case round=>
  obtain⟨i,rfl,hi,hf,ak⟩:=hrel;have cY:=eu ak;clear ak;cases gk with
  |zero=>
   have nP:¬(i:Int)<(l.length:Int):=by omega
   rw[XC (by omega)]at hf;have HF:=eu hf;clear hf;go_wp2;go_ret;exact⟨by rw[<-HF.o];rfl,cY.o⟩
  |succ gk=>
   have nP:(i:Int)<(l.length:Int):=by omega
   have dt:(0:Int)<=(i:Int):=by omega
   obtain⟨x,hx⟩:∃x,l[i]?=some x:=⟨_,Iv (by omega)⟩;rw[Q2 (by omega),show l[i]=x from(Dq.1 hx).2,Tt]at hf;have ai:=Vz HH.o cY.o;have cx:wr.cell? ⟨g,i,none⟩=some (.string ⟨x.toArray⟩):=by have:=ai.cells (g:=g) rfl i (.string ⟨x.toArray⟩) (by simp[strCells,hx]);simpa[Pf]using this
   have CP:=eu (HP.o wr x (cY.o.mono (λ_ h=>h.elim)));have HF:=eu hf;clear hf ai hx;go_wp2_with fail;refine CP.o.mono ?_;rintro e w2⟨rfl,f2⟩;have F2:=eu (cY.o.trans f2);clear f2 cx CP;cases hpx:p x with
   |true=>have hf:=HF.o;rw[hpx,nB rfl]at hf;have qq:=eu hf;clear hf hpx;go_wp2;go_ret;exact⟨by rw[<-qq.o];rfl,F2.o⟩
   |false=>
    have hf:=HF.o;rw[hpx,pL (by simp)]at hf;have qq:=eu hf;clear hf hpx;go_wp2
    go_roundg gk
    case measure=>omega
    case rel=>exact⟨i+1,by go_num,by omega,qq.o,F2.o⟩
variable {W:World}{i n:Nat}{vs:List Value}
theorem zsO(c:Nat)(ty:TypeId)(h:oH W g vs 9)(hi:i<n)(hn:n<=vs.length):
  (Builtin.clear_ #[38] ty #[.slice (some ⟨g,i,none⟩) (n-i) c]).run prog W=.ok (.tuple #[]) (W.setRow g (vs.take i++List.replicate (n-i) (Value.string ⟨#[]⟩)++vs.drop n).toArray):=by
 obtain⟨i0,dt,bq,aP,bF⟩:=nC RR;have hu:prog.underlying 38=some (.slice 9):=underlying38;obtain⟨m,hm⟩:∃m,n-i=m+1:=⟨n-i-1,by omega⟩;have hz:(zeroValue 9).run prog W=.ok (.string ⟨#[]⟩) W:=by kernel_rfl
 have FD:(Builtin.zeroCells (Value.cells (.string ⟨#[]⟩)) (m+1)).toList=List.replicate (m+1) (Value.string ⟨#[]⟩):=by
  apply List.ext_getElem
  .simp[Builtin.zeroCells,Value.cells]
  .intro j h1 h2;simp[Builtin.zeroCells,Value.cells,Nat.mod_one]
 have dY:=run_storeCells_at (P:=prog) g i 9 (List.replicate (m+1) (Value.string ⟨#[]⟩)) 0 vs.toArray W h (by simp;omega) (by intro v hv;rw[VP hv];rfl);rw[hm];unfold Builtin.clear_;simp[Sem.run_bind,run_underlying hu,Result.andThen,hz,FD,dY];rw[show i+(m+1)=n by omega]
theorem zjf(p:Cp.Nm->Bool):∀(l:List Cp.Nm)(i:Nat),(Tt p l i=-1/\l.filter (λx=>!p x)=l)\/∃k,Tt p l i=((i+k:Nat):Int)/\k<l.length/\(l.take (k+1)).filter (λx=>!p x)=l.take k
 |[],_=>.inl ⟨rfl,rfl⟩
 |x::l,i=>by
  rw[Tt];cases hp:p x with
  |true=>right;refine⟨0,by simp,by simp,?_⟩;simp[hp]
  |false=>
   rw[pL (by simp)];rcases zjf p l (i+1)with⟨h1,h2⟩|⟨k,h1,h2,h3⟩
   .exact .inl ⟨h1,by rw[List.filter_cons,hp];simp[h2]⟩
   .refine .inr ⟨k+1,by rw[h1];congr 1;omega,by simp;omega,?_⟩;rw[List.take_succ_cons,List.filter_cons,hp];simp only[Bool.not_false,kP];rw[h3,List.take_succ_cons]
variable {base:Nat}{xs:List Value}
theorem ztI(h:w.ownsRow base 9 1 (.slice (some ⟨g,0,none⟩) n cap) n xs):∃vs,oH w g vs 9/\vs.length=cap/\n<=cap/\cap<=maxLen/\base<=g/\vs.take n=xs:=by
 rcases h.2 with⟨h0,_⟩|⟨g',dU,cur,h0,hb,hg,hn,hm,hc,ht⟩
 .cases h0
 .cases h0;exact⟨cur.toList,hg,by simpa using hc,hn,hm,hb,by simpa using ht⟩
theorem UK(h:oH w g vs 9)(h1:vs.length=cap)(h2:n<=cap)(h3:cap<=maxLen)(h4:base<=g)(h5:vs.take n=xs):w.ownsRow base 9 1 (.slice (some ⟨g,0,none⟩) n cap) n xs:=by refine⟨by rw[<-h5,NQ];omega,.inr ⟨g,cap,vs.toArray,rfl,h4,h,h2,h3,by simp[h1],by simpa using h5⟩⟩
theorem zvl(hi:i<n)(hn:n<=cap):∀W:World,(Instr.slice 38 (.slice (some ⟨g,0,none⟩) n cap) (some (.int .i64 (i:Int))) none none).run prog W=.ok (.slice (some ⟨g,i,none⟩) (n-i) (cap-i)) W:=by
 intro W;rw[run_slice_l W 38 _ _ _ underlying38 .i64 _ (by omega) (by omega)];have e3:prog.elem 38=9:=by kernel_rfl
 rw[e3,sizeOf9];simp only[Result.andThen,sliced,MO,S8,Qx,Pf,On];rw[qj]
theorem zrU{vs':List Value}(h:oH W g vs 9):oH (W.setRow g vs'.toArray) g vs' 9/\Fr (λk=>k=g) W (W.setRow g vs'.toArray):=by refine⟨?_,(eU _ _).setRow g _ rfl⟩;unfold oH at *;exact J6 W g _ _ 9 _ h
theorem zf4{gf:Nat}{lb:Array Value}{p:Cp.Nm->Bool}(eg:∀args w,(callFunc gf args).run prog w=.ok (.enter gf args) w)(hp:Zj w g gf lb p)(h:w.ownsRow base 9 1 (.slice (some ⟨g,0,none⟩) l.length cap) l.length (strCells l))(hl:l.length<=1000000):
  Calls prog 146 #[.slice (some ⟨g,0,none⟩) l.length cap,.func (.func gf) #[] lb] w λe w'=>∃n',e=.returned (.slice (some ⟨g,0,none⟩) n' cap)/\n'=(l.filter (λx=>!p x)).length/\w'.ownsRow base 9 1 (.slice (some ⟨g,0,none⟩) n' cap) n' (strCells (l.filter (λx=>!p x)))/\Fr (λk=>k=g) w w':=by
 obtain⟨uV,kf,AR,o6,lY,rR,mg⟩:=ztI h;have CI:=eu (zmp eg hp (Ou h (Kc _)) hl);have HP:=eu hp;have dS:=eu kf;have HH:=eu h;have EG:=eg;clear h hp eg kf;rcases zjf p l 0 with⟨h1,h2⟩|⟨k,h1,h2,h3⟩
 .rw[h1]at CI;have HF:=eu h2;clear h1 h2;go_enter func146,ntmps146;go_wp2_with fail;refine CI.o.mono ?_;rintro e w1⟨rfl,f1⟩;have F1:=eu f1;clear f1;go_wp2;go_ret;refine⟨l.length,rfl,by rw[HF.o],?_,F1.o.mono (λ_ h=>h.elim)⟩;rw[HF.o];exact UK (gd dS.o F1.o) AR o6 lY rR mg
 .rw[h1,On]at CI;have EK:((k:Int) == -1)=false:=by rw[kJ];omega
  have HF:=eu h3;clear h1 h3;go_enter func146,ntmps146;go_wp2_with fail;refine CI.o.mono ?_;rintro e w1⟨rfl,f1⟩;have F1:=eu f1;clear f1;go_wp2_with fail
  go_loopg [5,6] (l.length-(k+1)) (λgk iv jv wr=>∃(i j:Nat)(vs:List Value),iv=.int .i64 i/\jv=.int .i64 j/\j+gk=l.length/\i<j/\oH wr g vs 9/\vs.length=cap/\vs.take i=strCells ((l.take j).filter (λx=>!p x))/\(∀t,j<=t->t<l.length->vs[t]?=(strCells l)[t]?)/\Fr (λk=>k=g) w wr)
  case atStart=>
   refine⟨k,k+1,uV,rfl,by go_num,by omega,by omega,gd dS.o F1.o,AR,?_,λt h1 h2=>?_,F1.o.mono (λ_ h=>h.elim)⟩
   .rw[HF.o];have:uV.take k=(uV.take l.length).take k:=by rw[U6,Sa (by omega)]
    rw[this,mg];simp[strCells]
   .rw[<-mg,List.getElem?_take_of_lt h2]
  case round=>
   obtain⟨i,j,vs,rfl,rfl,jm,ki,hb,dJ,qb,fR,ak⟩:=hrel;cases gk with
   |zero=>
    have sA:j=l.length:=by omega
    subst sA;have sy:¬(l.length:Int)<(l.length:Int):=by omega
    rw[N8 (qP _)]at qb;have FL:=λty=>zsO (cap-i) ty hb (show i<l.length by omega) (show l.length<=vs.length by omega)
    have py:=zvl (g:=g) ki o6;have FM:=zql (g:=g) (n:=l.length) (d:=i) (show i<=cap by omega);obtain⟨aw,zz⟩:=zrU (vs':=vs.take i++List.replicate (l.length-i) (Value.string ⟨#[]⟩)++vs.drop l.length) hb;have wI:=ak.trans zz;obtain⟨W3,xb⟩:∃W3,wr.setRow g (vs.take i++List.replicate (l.length-i) (Value.string ⟨#[]⟩)++vs.drop l.length).toArray=W3:=⟨_,rfl⟩;rw[xb]at aw wI;simp only[xb]at FL;have gA:=eu aw;have Bv:=eu wI;have uo:=eu qb;have As:(vs.take i++List.replicate (l.length-i) (Value.string ⟨#[]⟩)++vs.drop l.length).length=cap:=by simp;omega
    have aj:(vs.take i++List.replicate (l.length-i) (Value.string ⟨#[]⟩)++vs.drop l.length).take i=vs.take i:=by rw[Np,List.take_append_of_le_length (by rw[NQ];omega),U6,Nat.min_self]
    have yZ:=eu (kK As aj);have br:i=(l.filter (λx=>!p x)).length:=by
     have e9:(vs.take i).length=(strCells (l.filter (λx=>!p x))).length:=by rw[qb]
     rw[Yj,NQ,Sa (by omega)]at e9;exact e9
    have Ch:=eu br;clear hb aw zz wI xb ak qb As aj fR br;go_wp2;go_ret;refine⟨i,rfl,Ch.o,?_,Bv.o⟩;exact UK gA.o yZ.o.1 (by omega) lY rR (yZ.o.2.trans uo.o)
   |succ gk=>
    have gT:j<l.length:=by omega
    have sy:(j:Int)<(l.length:Int):=by omega
    have GG:(0:Int)<=(j:Int):=by omega
    have dt:(0:Int)<=(i:Int):=by omega
    have nP:(i:Int)<(l.length:Int):=by omega
    obtain⟨x,hx⟩:∃x,l[j]?=some x:=⟨_,Iv gT⟩;have cx:wr.cell? ⟨g,j,none⟩=some (.string ⟨x.toArray⟩):=by have:=al hb j;rw[fR j (qP _) gT]at this;rw[this];simp[strCells,hx]
    have CP:=eu (HP.o wr x ak);have qf:l.take (j+1)=l.take j++[x]:=PH hx;have zf:=eu qf;have BG:=eu hb;have kA:=eu ak;have uo:=eu qb;have y9:=eu fR;clear hb ak qb fR qf hx;go_wp2_with fail;refine CP.o.mono ?_;rintro e w2⟨rfl,f2⟩;have F2:=eu (kA.o.trans (f2.mono (λ_ h=>h.elim)));have B2:=eu (gd BG.o f2);clear f2 cx CP;cases hpx:p x with
    |true=>
     have HE:Hid ((l.take (j+1)).filter (λx=>!p x)=(l.take j).filter (λx=>!p x)):=eu (by rw[zf.o,List.filter_append];simp[hpx]);clear hpx;go_wp2
     go_roundg gk
     case measure=>omega
     case rel=>exact⟨i,j+1,vs,rfl,by go_num,by omega,by omega,B2.o,dJ,by rw[HE.o];exact uo.o,λt h1 h2=>y9.o t (by omega) h2,F2.o⟩
    |false=>
     have HE:Hid ((l.take (j+1)).filter (λx=>!p x)=(l.take j).filter (λx=>!p x)++[x]):=eu (by rw[zf.o,List.filter_append];simp[hpx]);have ci:=al B2.o i;have AV:vs[i]?=some vs[i]:=Iv (by omega);rw[AV]at ci;have cf:=ku B2.o i;have mw:=eu (B2.o.set i (.string ⟨x.toArray⟩));have qs:Hid (Fr (λk=>k=g) w (w2.setCell ⟨g,i,none⟩ (.string ⟨x.toArray⟩))):=eu (F2.o.set _ _ (.inl rfl));clear hpx AV;go_wp2
     go_roundg gk
     case measure=>omega
     case rel=>
      refine⟨i+1,j+1,vs.set i (.string ⟨x.toArray⟩),by go_num,by go_num,by omega,by omega,mw.o,by simpa using dJ,?_,λt h1 h2=>?_,qs.o⟩
      .rw[HE.o];have e1:(vs.set i (Value.string ⟨x.toArray⟩)).take (i+1)=vs.take i++[.string ⟨x.toArray⟩]:=by
        rw[PH (List.getElem?_set_self (by omega)),List.take_set_of_le (qP _)]
       rw[e1,uo.o];simp[strCells]
      .rw[XJ (by omega)];exact y9.o t (by omega) h2
variable {fv:Value}
theorem zmq :
  Calls prog 211 #[.slice none 0 0,fv] w λe w'=>e=.returned (.int .i64 (-1))/\w'=w:=by
 go_enter func211,ntmps211;go_wp2_with fail;refine oI 1 ?_;rw[nE];go_wp2;go_ret;exact⟨rfl,rfl⟩
theorem zf5 :
  Calls prog 146 #[.slice none 0 0,fv] w λe w'=>e=.returned (.slice none 0 0)/\w'=w:=by
 go_enter func146,ntmps146;go_wp2_with fail;refine zmq.mono ?_;rintro e w1⟨rfl,aD⟩;subst w1;go_wp2;go_ret;exact⟨rfl,rfl⟩
variable {gv:Value}{gone:List Cp.Nm}
theorem zoY{bx:Nat}(hb:oH w bx [gv] 38)(hr:w.ownsRow 0 9 1 gv gone.length (strCells gone))(hl:gone.length<=1000000)(x:Cp.Nm):
  Calls prog 213 #[.string ⟨x.toArray⟩,.pointer (some ⟨bx,0,none⟩)] w λe w'=>e=.returned (.bool (gone.contains x))/\Fr (λ_=>False) w w':=by
 have c0:=al hb 0;simp at c0;have tW:=WM hr hl ⟨x.toArray⟩;have e0:(⟨x.toArray⟩:ByteArray).data.toList=x:=by simp
 rw[e0]at tW;generalize gone.contains x=bv at tW|-;have CC:=eu tW;clear hb hr tW;go_enter func213,ntmps213;go_wp2_with fail;refine CC.o.mono ?_;rintro e w1⟨rfl,aD⟩;subst w1;go_wp2;go_ret;exact⟨rfl,eU _ _⟩
variable {Z1 Z2:Nat->Prop}{lv:Value}
theorem zkm(h1:Row Z1 w 9 1 lv l.length (strCells l))(h2:Row Z2 w 9 1 gv gone.length (strCells gone))(aL:l.length<=1000000)(aC:gone.length<=1000000):
  Calls prog 152 #[lv,gv] w λe w'=>∃v',e=.returned v'/\w'.ownsRow w.heap.size 9 1 v' (M6 l gone).length (strCells (M6 l gone))/\Fr (λ_=>False) w w':=by
 have mc:∀(fn:Fn)(first cap:Array Value)(w:World),(Instr.makeFunc fn first cap).run prog w=.ok (.func fn first cap) w:=λ_ _ _ _=>rfl
 obtain⟨gp,gc,gg,ie,_⟩:=Pc h2.1;subst ie;have F1:Hid (Fr (λ_=>False) w (w.alloc (.cells #[.slice gp gone.length gc] 38))):=eu ((eU _ _).alloc _);have B1:=eu (gH w [.slice gp gone.length gc] 38);have CC:=eu (zny (h1.Oq F1.o (by simp)) aL);have H2:=eu h2;have EG:=enters_of (P:=prog) func213 (by kernel_rfl) rfl;have vy:=eu EG;clear h1 h2 EG;go_enter func152,ntmps152;go_wp2_with fail;refine CC.o.mono ?_;rintro e w2⟨v',rfl,ai,f2⟩;have F2:=eu (F1.o.trans f2);have B2:=eu (gd B1.o f2);have HO:=eu ai;have cT:=gM w (.cells #[.slice gp gone.length gc] 38);rcases Mq (lP ai)with hv|⟨g,cap,hv⟩
 .subst hv;have da:l=[]:=by
   rcases ai.2 with⟨_,h0⟩|⟨_,_,_,h0,_⟩
   .exact Pl.1 h0
   .cases h0
  subst da;clear ai f2 CC cT;go_wp2_with fail;refine zf5.mono ?_;rintro e w3⟨rfl,bL⟩;subst w3;go_wp2;go_ret;exact⟨_,rfl,kt _ _ _ _,F2.o⟩
 .subst hv;have fX:w.heap.size+1<=g:=by have:=(ai.lt g rfl).1;omega
  have hp:Zj w2 g 213 #[.pointer (some ⟨w.heap.size,0,none⟩)] (λx=>gone.contains x):=λW x fW=>by
   have hr:Row (λ_=>True) W 9 1 (.slice gp gone.length gc) gone.length (strCells gone):=by refine Row.Ku (Z:=λk=>k<w.heap.size) (K:=λk=>k=g) ?_ fW (λk hk hz e=>by omega) (λ_ _ _=>trivial);exact⟨(mq H2.o F2.o).1,λk hk=>(H2.o.1.lt k hk).2⟩
   exact zoY (gd B2.o fW (by omega)) hr.1 aC x
  have CD:=eu (zf4 vy.o hp ai aL);clear ai f2 CC hp cT;go_wp2_with fail;refine CD.o.mono ?_;rintro e w3⟨n',rfl,hn,nU,f3⟩;have qB:=eu nU;have F3:=eu (F2.o.drop f3 (λi hi e=>by omega));have HN:=eu hn;clear nU f3 CD hn;go_wp2;go_ret;have hn:=HN.o;subst hn;exact⟨_,rfl,Ou qB.o (by rw[gM];omega),F3.o⟩
variable {cb bb:Nat}{rv sv kv:Value}{fns:List Cp.Nm}{q:Bs}
theorem zth{bx:Nat}(hb:oH w bx [.pointer (some ⟨bb,0,none⟩)] 100)(h:BS Z w cb bb rv sv kv fns q)(hl:q.kD.length<=1000000000)(x:Cp.Nm):
  Calls prog 148 #[.string ⟨x.toArray⟩,.pointer (some ⟨bx,0,none⟩)] w λe w'=>e=.returned (.bool (!(Nu q.kD x).isSome))/\Fr (λ_=>False) w w':=by
 have c0:=al hb 0;simp at c0;have CC:=eu (zok h x hl);clear hb h;unfold TB at CC;cases hs:Nu q.kD x with
 |none=>rw[hs]at CC;simp only at CC;clear hs;go_enter func148,ntmps148;go_wp2_with fail;refine CC.o.mono ?_;rintro e w1⟨rfl,f1⟩;have F1:=eu f1;clear f1;go_wp2;go_ret;exact⟨rfl,F1.o⟩
 |some i=>
  rw[hs]at CC;simp only at CC;have hi:¬(i:Int)<0:=by omega
  clear hs;go_enter func148,ntmps148;go_wp2_with fail;refine CC.o.mono ?_;rintro e w1⟨rfl,f1⟩;have F1:=eu f1;clear f1;go_wp2;go_ret;refine⟨?_,F1.o⟩;simp[hi]
theorem Vi(h:BS Z w cb bb rv sv kv fns q)(h1:Row Z1 w 9 1 lv l.length (strCells l))(aL:l.length<=1000000)(aC:q.kD.length<=1000000000):
  Calls prog 88 #[.pointer (some ⟨bb,0,none⟩),lv] w λe w'=>∃v',e=.returned v'/\w'.ownsRow w.heap.size 9 1 v' (Il q.kD l).length (strCells (Il q.kD l))/\Fr (λ_=>False) w w':=by
 have mc:∀(fn:Fn)(first cap:Array Value)(w:World),(Instr.makeFunc fn first cap).run prog w=.ok (.func fn first cap) w:=λ_ _ _ _=>rfl
 have F1:Hid (Fr (λ_=>False) w (w.alloc (.cells #[.pointer (some ⟨bb,0,none⟩)] 100))):=eu ((eU _ _).alloc _);have B1:=eu (gH w [.pointer (some ⟨bb,0,none⟩)] 100);have CC:=eu (zny (h1.Oq F1.o (by simp)) aL);have HH:=eu h;have vy:=eu (enters_of (P:=prog) func148 (by kernel_rfl) rfl);clear h1 h;go_enter func88,ntmps88;go_wp2_with fail;refine CC.o.mono ?_;rintro e w2⟨v',rfl,ai,f2⟩;have F2:=eu (F1.o.trans f2);have B2:=eu (gd B1.o f2);have cT:=gM w (.cells #[.pointer (some ⟨bb,0,none⟩)] 100);rcases Mq (lP ai)with hv|⟨g,cap,hv⟩
 .subst hv;have da:l=[]:=by
   rcases ai.2 with⟨_,h0⟩|⟨_,_,_,h0,_⟩
   .exact Pl.1 h0
   .cases h0
  subst da;clear ai f2 CC cT;go_wp2_with fail;refine zf5.mono ?_;rintro e w3⟨rfl,bL⟩;subst w3;go_wp2;go_ret;exact⟨_,rfl,kt _ _ _ _,F2.o⟩
 .subst hv;have fX:w.heap.size+1<=g:=by have:=(ai.lt g rfl).1;omega
  have hp:Zj w2 g 148 #[.pointer (some ⟨w.heap.size,0,none⟩)] (λx=>!(Nu q.kD x).isSome):=λW x fW=>by have DH:Fr (λ_=>False) w W:=F2.o.drop fW (λi hi e=>by omega);exact zth (gd B2.o fW (by omega)) (HH.o.qR DH) aC x
  have CD:=eu (zf4 vy.o hp ai aL);clear ai f2 CC hp cT;go_wp2_with fail;refine CD.o.mono ?_;rintro e w3⟨n',rfl,hn,nU,f3⟩;have qB:=eu nU;have F3:=eu (F2.o.drop f3 (λi hi e=>by omega));have HN:=eu hn;clear nU f3 CD hn;go_wp2;go_ret;have hn:=HN.o;subst hn;have e9:Il q.kD l=l.filter (λx=>!!(Nu q.kD x).isSome):=by simp[Il]
  rw[e9];exact⟨_,rfl,Ou qB.o (by rw[gM];omega),F3.o⟩
end
section
open Go.RowKit
abbrev TY (a b:TypeId):Prop:=∀(x:Value)(w:World),(Instr.typeAssert (.iface a x) 91 b true).run prog w=.ok (.tuple #[x,.bool true]) w
abbrev TN (a b:TypeId) (v:Value):Prop:=∀(x:Value)(w:World),(Instr.typeAssert (.iface a x) 91 b true).run prog w=.ok (.tuple #[v,.bool false]) w
def Se (a:TypeId):List (TypeId × Value)->Prop
 |[]=>True
 |(b,v)::l=>TN a b v/\Se a l
def zl:List (TypeId × Value):=[(215,.agg #[.string ⟨#[]⟩,.int .i64 0]),(217,.agg #[.int .i64 0]),(219,.agg #[.int .i64 0,.int .i64 0]),(163,.agg #[.nilIface,.nilIface]),(166,.agg #[.string ⟨#[]⟩,.nilIface,.nilIface]),(178,.agg #[.bool false,.slice none 0 0,.nilIface]),(173,.agg #[.nilIface,.slice none 0 0]),(226,.agg #[.slice none 0 0,.nilIface])]
theorem Uh:TY 215 215/\Se 215 (zl.eraseIdx 0):=⟨λ_ _=>by kernel_rfl,by repeat' (first|exact trivial|refine kK (λ_ _=>by kernel_rfl) ?_)⟩
theorem Uk:TY 217 217/\Se 217 (zl.eraseIdx 1):=⟨λ_ _=>by kernel_rfl,by repeat' (first|exact trivial|refine kK (λ_ _=>by kernel_rfl) ?_)⟩
theorem Ta:TY 219 219/\Se 219 (zl.eraseIdx 2):=⟨λ_ _=>by kernel_rfl,by repeat' (first|exact trivial|refine kK (λ_ _=>by kernel_rfl) ?_)⟩
theorem Ue:TY 163 163/\Se 163 (zl.eraseIdx 3):=⟨λ_ _=>by kernel_rfl,by repeat' (first|exact trivial|refine kK (λ_ _=>by kernel_rfl) ?_)⟩
theorem Ui:TY 166 166/\Se 166 (zl.eraseIdx 4):=⟨λ_ _=>by kernel_rfl,by repeat' (first|exact trivial|refine kK (λ_ _=>by kernel_rfl) ?_)⟩
theorem Ug:TY 178 178/\Se 178 (zl.eraseIdx 5):=⟨λ_ _=>by kernel_rfl,by repeat' (first|exact trivial|refine kK (λ_ _=>by kernel_rfl) ?_)⟩
theorem Uf:TY 173 173/\Se 173 (zl.eraseIdx 6):=⟨λ_ _=>by kernel_rfl,by repeat' (first|exact trivial|refine kK (λ_ _=>by kernel_rfl) ?_)⟩
theorem Uj:TY 226 226/\Se 226 (zl.eraseIdx 7):=⟨λ_ _=>by kernel_rfl,by repeat' (first|exact trivial|refine kK (λ_ _=>by kernel_rfl) ?_)⟩
end
section
open Go.RowKit Go.Shelf
attribute [local go_sem ↓] Go.wp_at_zero Go.wp_at_succ
def Names (base:Nat) (w:World) (v:Value) (l:List Cp.Nm):Prop:=Row (λb=>base<=b) w 9 1 v l.length (strCells l)
variable {base:Nat}{w w':World}{v:Value}{l:List Cp.Nm}
theorem Names.qR(h:Names base w v l)(f:Fr (λ_=>False) w w'):Names base w' v l:=mq h f
theorem Names.NB{b':Nat}(h:Names base w v l)(hb:b'<=base):Names b' w v l:=⟨h.1,λk hk=>yM hb (h.2 k hk)⟩
abbrev Ib:=@Names.NB
variable {S:Nat->Prop}{n:Nat}
theorem qU.qR{e:Ex}(h:qU S w n v e)(f:Fr (λ_=>False) w w'):qU S w' n v e:=Jm (λ_ _ _ _ _ hR=>hR.Oq f (by simp)) n v e h
variable {Z1 Z2:Nat->Prop}{lv:Value}
theorem UC{mv:Value}{more:List Cp.Nm}(h1:Row Z1 w 9 1 lv l.length (strCells l))(h2:Row Z2 w 9 1 mv more.length (strCells more))(aL:l.length<=1000000)(aC:more.length<=1000000):
  Calls prog 150 #[lv,mv] w λe w'=>∃v',e=.returned v'/\Names w.heap.size w' v' (union l more)/\Fr (λ_=>False) w w':=by
 obtain⟨la,ln,lc,rfl⟩:=OG h1.1;have CW:=eu (zkm h2 h1 aC aL);have H1:=eu h1;have eE:(M6 more l).length<=1000000:=yM (I7 _ _) aC;clear h1 h2;go_enter func150,ntmps150;go_wp2_with fail;refine CW.o.mono ?_;rintro e w2⟨v',rfl,ai,f2⟩;obtain⟨va,vn,vc,rfl⟩:=OG ai;have F2:=eu f2;have CC:=eu (Yt (H1.o.Oq f2 (by simp)) (lP ai) aL eE);clear f2 ai CW;go_wp2_with fail;refine CC.o.mono ?_;rintro e w3⟨a,k,c,rfl,hr,hb⟩;have HR:=eu hr;have F3:=eu (F2.o.trans (oq hb));clear hr hb CC;go_wp2;go_ret;exact⟨_,rfl,Ib HR.o F2.o.size,F3.o⟩
def Cp.wt:Nat->Th.Ex->Nat
 |0,_=>0
 |n+1,e=>1+e.names.length+(e.nA.map λa=>1+a.2.length).sum+(e.kids.map (Cp.wt n)).sum
theorem Cp.zbp(l g:List Cp.Nm):(Cp.M6 l g).length<=l.length:=I7 _ _
abbrev JB:=@Cp.zbp
theorem Cp.zcP(l m:List Cp.Nm):(Cp.union l m).length<=l.length+m.length:=by unfold Cp.union;rw[IJ];have:=JB m l;omega
abbrev Km:=@Cp.zcP
theorem Cp.zed(f:Th.Ex->List Cp.Nm)(g:Th.Ex->Nat)(hf:∀e,(f e).length<=g e):∀(ps:List Th.Ex)(l:List Cp.Nm),(Cp.M7 f ps l).length<=l.length+(ps.map g).sum
 |[],l=>by simp[M7]
 |p::ps,l=>by have h1:=zed f g hf ps (union l (f p));have h2:=Km l (f p);have h3:=hf p;simp only[M7,Ki,MW];omega
theorem Cp.Ut(f:Th.Ex->List Cp.Nm)(g:Th.Ex->Nat)(hf:∀e,(f e).length<=g e):∀(az:List (Nat × List Th.Tok))(bs:List Th.Ex)(l:List Cp.Nm),(Cp.Mu f az bs l).length<=l.length+(bs.map g).sum
 |[],bs,l=>by simp[Mu]
 |_::_,[],l=>by simp[Mu]
 |a::az,b::bs,l=>by have h1:=Ut f g hf az bs (union l (M6 (f b) (texts a.2)));have h2:=Km l (M6 (f b) (texts a.2));have h3:=JB (f b) (texts a.2);have h4:=hf b;simp only[Mu,Ki,MW];omega
theorem Cp.Ra:∀(n:Nat)(e:Th.Ex),(Cp.free n e).length<=Cp.wt n e
 |0,_=>by simp[Cp.free]
 |n+1,e=>by
  have ih:=Ra n;rw[Cp.free,Cp.wt];split
  .simp;omega
  .split
   .split
    .next b hk=>have h1:=JB (Cp.free n b) (texts e.names);have h2:=ih b;rw[hk];simp;omega
    .simp
   .split
    .split
     .next a b hk=>have h1:=Km (Cp.free n a) (Cp.free n b);have h2:=ih a;have h3:=ih b;rw[hk];simp;omega
     .simp
    .split
     .split
      .next b ps hk=>have h1:=Km (M7 (Cp.free n) ps []) (M6 (Cp.free n b) (texts e.names));have h2:=zed (Cp.free n) (Cp.wt n) ih ps [];have h3:=JB (Cp.free n b) (texts e.names);have h4:=ih b;rw[hk];simp at h2|-;omega
      .simp
     .split
      .split
       .next b ps hk=>have h1:=Km (M6 (M7 (Cp.free n) ps []) (texts e.names)) (M6 (Cp.free n b) (texts e.names));have h2:=zed (Cp.free n) (Cp.wt n) ih ps [];have h5:=JB (M7 (Cp.free n) ps []) (texts e.names);have h3:=JB (Cp.free n b) (texts e.names);have h4:=ih b;rw[hk];simp at h2|-;omega
       .simp
      .split
       .split
        .next b ps hk=>have h1:=Km (Cp.free n b) (Mu (Cp.free n) e.nA ps []);have h2:=Ut (Cp.free n) (Cp.wt n) ih e.nA ps [];have h4:=ih b;rw[hk];simp at h2|-;omega
        .simp
       .simp
abbrev IK:=@Cp.Ra
def zye (n:Nat):Prop:=∀{S:Nat->Prop}{w:World}{v:Value}{e:Ex},qU S w n v e->Cp.wt n e<=1000000 ->
 Calls prog 89 #[v] w λr w'=>∃v',r=.returned v'/\Names w.heap.size w' v' (Cp.free n e)/\Fr (λ_=>False) w w'
theorem zpt{x:Int}:
  Calls prog 89 #[.iface 217 (.agg #[.int .i64 x])] w λr w'=>∃v',r=.returned v'/\Names w.heap.size w' v' []/\Fr (λ_=>False) w w':=by
 obtain⟨-,i0,-,i1,i2,i3,i4,i5,-⟩:=Uk;go_enter func89,ntmps89;go_wp2;go_ret;exact⟨_,rfl,⟨kt _ _ _ _,by simp[Value.ownBlock]⟩,eU _ _⟩
theorem zrw{x y:Int}:
  Calls prog 89 #[.iface 219 (.agg #[.int .i64 x,.int .i64 y])] w λr w'=>∃v',r=.returned v'/\Names w.heap.size w' v' []/\Fr (λ_=>False) w w':=by
 obtain⟨-,i0,-,i1,i2,i3,i4,i5,-⟩:=Ta;go_enter func89,ntmps89;go_wp2;go_ret;exact⟨_,rfl,⟨kt _ _ _ _,by simp[Value.ownBlock]⟩,eU _ _⟩
variable {x:Cp.Nm}
theorem zvz{y:Int}:
  Calls prog 89 #[.iface 215 (.agg #[.string ⟨x.toArray⟩,.int .i64 y])] w λr w'=>∃v',r=.returned v'/\Names w.heap.size w' v' [x]/\Fr (λ_=>False) w w':=by
 obtain⟨i0,-⟩:=Uh;go_enter func89,ntmps89;go_wp2;go_ret;refine⟨_,rfl,?_,((eU _ _).alloc _).alloc _⟩;have hB:=gH (w.alloc (.cells #[.string ⟨x.toArray⟩,.int .i64 y] 215)) [.string ⟨x.toArray⟩] 9;rw[gM]at hB;refine⟨UK (vs:=[.string ⟨x.toArray⟩]) hB rfl (qP _) (by unfold maxLen;omega) (Kc _) (by simp[strCells]),λk hk=>?_⟩;simp[Value.ownBlock]at hk;omega
variable {t1:TypeId}{x1:Value}{l1 l2:List Cp.Nm}
theorem ztb{t2:TypeId}{x2:Value}(aL:l1.length<=1000000)(aC:l2.length<=1000000)(c1:∀W,Fr (λ_=>False) w W->Calls prog 89 #[.iface t1 x1] W λr w'=>∃v',r=.returned v'/\Names W.heap.size w' v' l1/\Fr (λ_=>False) W w')(c2:∀W,Fr (λ_=>False) w W->Calls prog 89 #[.iface t2 x2] W λr w'=>∃v',r=.returned v'/\Names W.heap.size w' v' l2/\Fr (λ_=>False) W w'):
  Calls prog 89 #[.iface 163 (.agg #[.iface t1 x1,.iface t2 x2])] w λr w'=>∃v',r=.returned v'/\Names w.heap.size w' v' (union l1 l2)/\Fr (λ_=>False) w w':=by
 have C1:=eu c1;have C2:=eu c2;clear c1 c2;obtain⟨i1,i0,-⟩:=Ue;have B0:=eu (gH w [.iface t1 x1,.iface t2 x2] 163);have F0:Hid (Fr (λ_=>False) w (w.alloc (.cells #[.iface t1 x1,.iface t2 x2] 163))):=eu ((eU _ _).alloc _);go_enter func89,ntmps89;go_wp2_with fail;generalize w.alloc (.cells #[.iface t1 x1,.iface t2 x2] 163)=w1 at B0 F0|-;have B1:=B0;clear i0 i1 B0;have FC:Hid (Fr (λ_=>False) w1 w1.drew):=eu (eU _ _).drew;have q0:=al B1.o 0;have q1:=al B1.o 1;simp at q0 q1
 go_region_held3 (λW=>W.cell? ⟨w.heap.size,0,none⟩=some (.iface t1 x1)/\W.cell? ⟨w.heap.size,1,none⟩=some (.iface t2 x2)) (first|(refine⟨?_,?_⟩<;>assumption)|go_keep) (first
  |(go_at_call 89;with_reducible refine(C1.o _ (F0.o.trans FC.o)).mono ?_;rintro e wA⟨va,rfl,ra,fa⟩;have dO:=eu (FC.o.trans fa);(try(have jA:=eu (RB.o.qR fa);clear RB;have RB:=jA;clear jA));have RA:=eu (ra.NB (Kc _));clear FC;have FC:=dO;clear dO;have wx:wA.cell? ⟨w.heap.size,0,none⟩=some (.iface t1 x1):=(by simpa using al (gd B1.o FC.o) 0);have wE:wA.cell? ⟨w.heap.size,1,none⟩=some (.iface t2 x2):=(by simpa using al (gd B1.o FC.o) 1);clear ra fa)
  |(go_at_call 89;with_reducible refine(C2.o _ (F0.o.trans FC.o)).mono ?_;rintro e wB⟨vb,rfl,rb,fb⟩;have dO:=eu (FC.o.trans fb);(try(have jz:=eu (RA.o.qR fb);clear RA;have RA:=jz;clear jz));have RB:=eu (rb.NB (Kc _));clear FC;have FC:=dO;clear dO;have wC:wB.cell? ⟨w.heap.size,0,none⟩=some (.iface t1 x1):=(by simpa using al (gd B1.o FC.o) 0);have wF:wB.cell? ⟨w.heap.size,1,none⟩=some (.iface t2 x2):=(by simpa using al (gd B1.o FC.o) 1);clear rb fb)
  |(go_at_call 150;refine(UC RA.o RB.o aL aC).mono ?_;rintro e wU⟨vu,rfl,ru,fu⟩;have FU:=eu (FC.o.trans fu);have RU:=eu ru;have jP:=eu FC.o.size;have wD:wU.cell? ⟨w.heap.size,0,none⟩=some (.iface t1 x1):=(by simpa using al (gd B1.o FU.o) 0);have uw:wU.cell? ⟨w.heap.size,1,none⟩=some (.iface t2 x2):=(by simpa using al (gd B1.o FU.o) 1);clear ru fu))
 all_goals
  go_wp2;go_ret;exact⟨_,rfl,RU.o.NB (yM F0.o.size jP.o),F0.o.trans FU.o⟩
theorem zkB{t2:TypeId}{x2:Value}{s:ByteArray}(aL:l1.length<=1000000)(aC:l2.length<=1000000)(c1:∀W,Fr (λ_=>False) w W->Calls prog 89 #[.iface t1 x1] W λr w'=>∃v',r=.returned v'/\Names W.heap.size w' v' l1/\Fr (λ_=>False) W w')(c2:∀W,Fr (λ_=>False) w W->Calls prog 89 #[.iface t2 x2] W λr w'=>∃v',r=.returned v'/\Names W.heap.size w' v' l2/\Fr (λ_=>False) W w'):
  Calls prog 89 #[.iface 166 (.agg #[.string s,.iface t1 x1,.iface t2 x2])] w λr w'=>∃v',r=.returned v'/\Names w.heap.size w' v' (union l1 l2)/\Fr (λ_=>False) w w':=by
 have C1:=eu c1;have C2:=eu c2;clear c1 c2;obtain⟨i2,i0,-,-,i1,-⟩:=Ui;have B0:=eu (gH w [.string s,.iface t1 x1,.iface t2 x2] 166);have F0:Hid (Fr (λ_=>False) w (w.alloc (.cells #[.string s,.iface t1 x1,.iface t2 x2] 166))):=eu ((eU _ _).alloc _);go_enter func89,ntmps89;go_wp2_with fail;generalize w.alloc (.cells #[.string s,.iface t1 x1,.iface t2 x2] 166)=w1 at B0 F0|-;have B1:=B0;clear i0 i1 i2 B0;have FC:Hid (Fr (λ_=>False) w1 w1.drew):=eu (eU _ _).drew;have q0:=al B1.o 1;have q1:=al B1.o 2;simp at q0 q1
 go_region_held3 (λW=>W.cell? ⟨w.heap.size,1,none⟩=some (.iface t1 x1)/\W.cell? ⟨w.heap.size,2,none⟩=some (.iface t2 x2)) (first|(refine⟨?_,?_⟩<;>assumption)|go_keep) (first
  |(go_at_call 89;with_reducible refine(C1.o _ (F0.o.trans FC.o)).mono ?_;rintro e wA⟨va,rfl,ra,fa⟩;have dO:=eu (FC.o.trans fa);(try(have jA:=eu (RB.o.qR fa);clear RB;have RB:=jA;clear jA));have RA:=eu (ra.NB (Kc _));clear FC;have FC:=dO;clear dO;have wx:wA.cell? ⟨w.heap.size,1,none⟩=some (.iface t1 x1):=(by simpa using al (gd B1.o FC.o) 1);have wE:wA.cell? ⟨w.heap.size,2,none⟩=some (.iface t2 x2):=(by simpa using al (gd B1.o FC.o) 2);clear ra fa)
  |(go_at_call 89;with_reducible refine(C2.o _ (F0.o.trans FC.o)).mono ?_;rintro e wB⟨vb,rfl,rb,fb⟩;have dO:=eu (FC.o.trans fb);(try(have jz:=eu (RA.o.qR fb);clear RA;have RA:=jz;clear jz));have RB:=eu (rb.NB (Kc _));clear FC;have FC:=dO;clear dO;have wC:wB.cell? ⟨w.heap.size,1,none⟩=some (.iface t1 x1):=(by simpa using al (gd B1.o FC.o) 1);have wF:wB.cell? ⟨w.heap.size,2,none⟩=some (.iface t2 x2):=(by simpa using al (gd B1.o FC.o) 2);clear rb fb)
  |(go_at_call 150;refine(UC RA.o RB.o aL aC).mono ?_;rintro e wU⟨vu,rfl,ru,fu⟩;have FU:=eu (FC.o.trans fu);have RU:=eu ru;have jP:=eu FC.o.size;have wD:wU.cell? ⟨w.heap.size,1,none⟩=some (.iface t1 x1):=(by simpa using al (gd B1.o FU.o) 1);have uw:wU.cell? ⟨w.heap.size,2,none⟩=some (.iface t2 x2):=(by simpa using al (gd B1.o FU.o) 2);clear ru fu))
 all_goals
  go_wp2;go_ret;exact⟨_,rfl,RU.o.NB (yM F0.o.size jP.o),F0.o.trans FU.o⟩
variable {gv:Value}{gone:List Cp.Nm}
theorem WO(h1:Row Z1 w 9 1 lv l.length (strCells l))(h2:Row Z2 w 9 1 gv gone.length (strCells gone))(aL:l.length<=1000000)(aC:gone.length<=1000000):
  Calls prog 152 #[lv,gv] w λe w'=>∃v',e=.returned v'/\Names w.heap.size w' v' (M6 l gone)/\Fr (λ_=>False) w w':=
 (zkm h1 h2 aL aC).mono λ_ _⟨v',e,h,f⟩=>⟨v',e,lP h,f⟩
variable {nv:Value}
theorem WT{l:List Tok}(hr:Row S w 88 2 nv l.length (Ms l))(hl:l.length<=1000000:=by omega):
  Calls prog 52 #[nv] w λe w'=>∃v',e=.returned v'/\Names w.heap.size w' v' (texts l)/\Fr (λ_=>False) w w':=
 (W7 hr hl).mono λ_ _⟨v',e,h,f⟩=>⟨v',e,lP (by simpa[texts]using h),oq f⟩
variable {p:Option Addr}{m cp:Nat}
theorem ztc(aL:l1.length<=1000000)(aC:l2.length<=1000000)(c1:∀W,Fr (λ_=>False) w W->Calls prog 89 #[.iface t1 x1] W λr w'=>∃v',r=.returned v'/\Names W.heap.size w' v' l1/\Fr (λ_=>False) W w')(c2:∀W,Fr (λ_=>False) w W->Calls prog 92 #[.slice p m cp] W λr w'=>∃v',r=.returned v'/\Names W.heap.size w' v' l2/\Fr (λ_=>False) W w'):
  Calls prog 89 #[.iface 173 (.agg #[.iface t1 x1,.slice p m cp])] w λr w'=>∃v',r=.returned v'/\Names w.heap.size w' v' (union l1 l2)/\Fr (λ_=>False) w w':=by
 have C1:=eu c1;have C2:=eu c2;clear c1 c2;obtain⟨i4,i0,-,-,i1,i2,i3,-⟩:=Uf;have B0:=eu (gH w [.iface t1 x1,.slice p m cp] 173);have F0:Hid (Fr (λ_=>False) w (w.alloc (.cells #[.iface t1 x1,.slice p m cp] 173))):=eu ((eU _ _).alloc _);go_enter func89,ntmps89;go_wp2_with fail;generalize w.alloc (.cells #[.iface t1 x1,.slice p m cp] 173)=w1 at B0 F0|-;have B1:=B0;clear i0 i1 i2 i3 i4 B0;have FC:Hid (Fr (λ_=>False) w1 w1.drew):=eu (eU _ _).drew;have q0:=al B1.o 0;have q1:=al B1.o 1;simp at q0 q1
 go_region_held3 (λW=>W.cell? ⟨w.heap.size,0,none⟩=some (.iface t1 x1)/\W.cell? ⟨w.heap.size,1,none⟩=some (.slice p m cp)) (first|(refine⟨?_,?_⟩<;>assumption)|go_keep) (first
  |(go_at_call 89;with_reducible refine(C1.o _ (F0.o.trans FC.o)).mono ?_;rintro e wA⟨va,rfl,ra,fa⟩;have dO:=eu (FC.o.trans fa);(try(have jA:=eu (RB.o.qR fa);clear RB;have RB:=jA;clear jA));have RA:=eu (ra.NB (Kc _));clear FC;have FC:=dO;clear dO;have wx:wA.cell? ⟨w.heap.size,0,none⟩=some (.iface t1 x1):=(by simpa using al (gd B1.o FC.o) 0);have wE:wA.cell? ⟨w.heap.size,1,none⟩=some (.slice p m cp):=(by simpa using al (gd B1.o FC.o) 1);clear ra fa)
  |(go_at_call 92;with_reducible refine(C2.o _ (F0.o.trans FC.o)).mono ?_;rintro e wB⟨vb,rfl,rb,fb⟩;have dO:=eu (FC.o.trans fb);(try(have jz:=eu (RA.o.qR fb);clear RA;have RA:=jz;clear jz));have RB:=eu (rb.NB (Kc _));clear FC;have FC:=dO;clear dO;have wC:wB.cell? ⟨w.heap.size,0,none⟩=some (.iface t1 x1):=(by simpa using al (gd B1.o FC.o) 0);have wF:wB.cell? ⟨w.heap.size,1,none⟩=some (.slice p m cp):=(by simpa using al (gd B1.o FC.o) 1);clear rb fb)
  |(go_at_call 150;refine(UC RA.o RB.o aL aC).mono ?_;rintro e wU⟨vu,rfl,ru,fu⟩;have FU:=eu (FC.o.trans fu);have RU:=eu ru;have jP:=eu FC.o.size;have wD:wU.cell? ⟨w.heap.size,0,none⟩=some (.iface t1 x1):=(by simpa using al (gd B1.o FU.o) 0);have uw:wU.cell? ⟨w.heap.size,1,none⟩=some (.slice p m cp):=(by simpa using al (gd B1.o FU.o) 1);clear ru fu))
 all_goals
  go_wp2;go_ret;exact⟨_,rfl,RU.o.NB (yM F0.o.size jP.o),F0.o.trans FU.o⟩
theorem zps(aL:l1.length<=1000000)(aC:l2.length<=1000000)(c1:∀W,Fr (λ_=>False) w W->Calls prog 89 #[.iface t1 x1] W λr w'=>∃v',r=.returned v'/\Names W.heap.size w' v' l1/\Fr (λ_=>False) W w')(c2:∀W,Fr (λ_=>False) w W->Calls prog 52 #[.slice p m cp] W λr w'=>∃v',r=.returned v'/\Names W.heap.size w' v' l2/\Fr (λ_=>False) W w'):
  Calls prog 89 #[.iface 226 (.agg #[.slice p m cp,.iface t1 x1])] w λr w'=>∃v',r=.returned v'/\Names w.heap.size w' v' (M6 l1 l2)/\Fr (λ_=>False) w w':=by
 have C1:=eu c1;have C2:=eu c2;clear c1 c2;obtain⟨i5,i0,-,-,i1,i2,i3,i4,-⟩:=Uj;have B0:=eu (gH w [.slice p m cp,.iface t1 x1] 226);have F0:Hid (Fr (λ_=>False) w (w.alloc (.cells #[.slice p m cp,.iface t1 x1] 226))):=eu ((eU _ _).alloc _);go_enter func89,ntmps89;go_wp2_with fail;generalize w.alloc (.cells #[.slice p m cp,.iface t1 x1] 226)=w1 at B0 F0|-;have B1:=B0;clear i0 i1 i2 i3 i4 i5 B0;have FC:Hid (Fr (λ_=>False) w1 w1.drew):=eu (eU _ _).drew;have q0:=al B1.o 1;have q1:=al B1.o 0;simp at q0 q1
 go_region_held3 (λW=>W.cell? ⟨w.heap.size,1,none⟩=some (.iface t1 x1)/\W.cell? ⟨w.heap.size,0,none⟩=some (.slice p m cp)) (first|(refine⟨?_,?_⟩<;>assumption)|go_keep) (first
  |(go_at_call 89;with_reducible refine(C1.o _ (F0.o.trans FC.o)).mono ?_;rintro e wA⟨va,rfl,ra,fa⟩;have dO:=eu (FC.o.trans fa);(try(have jA:=eu (RB.o.qR fa);clear RB;have RB:=jA;clear jA));have RA:=eu (ra.NB (Kc _));clear FC;have FC:=dO;clear dO;have wx:wA.cell? ⟨w.heap.size,1,none⟩=some (.iface t1 x1):=(by simpa using al (gd B1.o FC.o) 1);have wE:wA.cell? ⟨w.heap.size,0,none⟩=some (.slice p m cp):=(by simpa using al (gd B1.o FC.o) 0);clear ra fa)
  |(go_at_call 52;with_reducible refine(C2.o _ (F0.o.trans FC.o)).mono ?_;rintro e wB⟨vb,rfl,rb,fb⟩;have dO:=eu (FC.o.trans fb);(try(have jz:=eu (RA.o.qR fb);clear RA;have RA:=jz;clear jz));have RB:=eu (rb.NB (Kc _));clear FC;have FC:=dO;clear dO;have wC:wB.cell? ⟨w.heap.size,1,none⟩=some (.iface t1 x1):=(by simpa using al (gd B1.o FC.o) 1);have wF:wB.cell? ⟨w.heap.size,0,none⟩=some (.slice p m cp):=(by simpa using al (gd B1.o FC.o) 0);clear rb fb)
  |(go_at_call 152;refine(WO RA.o RB.o aL aC).mono ?_;rintro e wU⟨vu,rfl,ru,fu⟩;have FU:=eu (FC.o.trans fu);have RU:=eu ru;have jP:=eu FC.o.size;have wD:wU.cell? ⟨w.heap.size,1,none⟩=some (.iface t1 x1):=(by simpa using al (gd B1.o FU.o) 1);have uw:wU.cell? ⟨w.heap.size,0,none⟩=some (.slice p m cp):=(by simpa using al (gd B1.o FU.o) 0);clear ru fu))
 all_goals
  go_wp2;go_ret;exact⟨_,rfl,RU.o.NB (yM F0.o.size jP.o),F0.o.trans FU.o⟩
def Zg (w:World) (v:Value) (l:List Cp.Nm):Prop:=∀W,Fr (λ_=>False) w W->Calls prog 89 #[v] W λr w'=>∃v',r=.returned v'/\Names W.heap.size w' v' l/\Fr (λ_=>False) W w'
variable {sv:Value}
theorem zf8{nA:List (Nat × List Tok)}{ag:List Ex}{nvs bvs:List Value}{f:Ex->List Cp.Nm}{g:Ex->Nat}(hg:∀e,(f e).length<=g e)(h3:ag.length=nA.length)(h4:nvs.length=nA.length)(h5:bvs.length=nA.length)(h6:Row S w 240 3 sv nA.length (OF nA nvs bvs))(h7:∀(i:Nat)(a:Nat × List Tok)(nv:Value),nA[i]?=some a->nvs[i]?=some nv->Row S w 88 2 nv a.2.length (Ms a.2)/\a.2.length<=1000000)(h8:∀(i:Nat)(bv:Value)(p:Ex),bvs[i]?=some bv->ag[i]?=some p->(∃t x,bv=.iface t x)/\Zg w bv (f p))(hb:(ag.map g).sum<=1000000)(aU:nA.length<=1000000):
  Calls prog 92 #[sv] w λr w'=>∃v',r=.returned v'/\Names w.heap.size w' v' (Mu f nA ag [])/\Fr (λ_=>False) w w':=by
 have eM:=Mq h6;obtain⟨sa,sn,sc,rfl⟩:=Jk h6;have fD:sn=nA.length:=by
  rcases h6.1.2 with⟨h,h0⟩|⟨_,_,_,h0,_⟩
  .cases h;exact h0.symm
  .cases h0;rfl
 subst fD;have H3:=eu h3;have H4:=eu h4;have H5:=eu h5;have H6:=eu h6;have H7:=eu h7;have H8:=eu h8;have HB:=eu hb;have HG:=eu hg;clear h3 h4 h5 h6 h7 h8 hb hg;go_enter func92,ntmps92;go_wp2_with fail
 go_loopg [3,8] nA.length (λgk v iv wr=>∃(k:Nat)(cur:List Cp.Nm),iv=.int .i64 k/\k+gk=nA.length/\Names w.heap.size wr v cur/\Mu f (nA.drop k) (ag.drop k) cur=Mu f nA ag []/\cur.length+((ag.drop k).map g).sum<=1000000/\Fr (λ_=>False) w wr)
 case atStart=>exact⟨0,[],rfl,by omega,⟨kt _ _ _ _,by simp[Value.ownBlock]⟩,by simp,by simpa using HB.o,eU _ _⟩
 case round=>
  obtain⟨k,cur,rfl,hk,fK,hE,hl,hf⟩:=hrel;obtain⟨va,vn,vc,rfl⟩:=Jk fK;have HC:=eu fK;have HE:=eu hE;have HL:=eu hl;have HF:=eu hf;by_cases aj:k<nA.length
  .obtain⟨gb,jw⟩:∃gb,sa=some ⟨gb,0,none⟩:=by
    rcases eM with h|⟨g,cap,h⟩
    .have:=(nD h).2.1;omega
    .exact⟨g,(nD h).1⟩
   subst jw;obtain⟨a,ha⟩:∃a,nA[k]?=some a:=⟨nA[k],Iv aj⟩;obtain⟨p,hp⟩:∃p,ag[k]?=some p:=⟨_,Iv (by rw[H3.o];exact aj)⟩;obtain⟨nv,ay⟩:∃nv,nvs[k]?=some nv:=⟨_,Iv (by rw[H4.o];exact aj)⟩;obtain⟨bv,cC⟩:∃bv,bvs[k]?=some bv:=⟨_,Iv (by rw[H5.o];exact aj)⟩;obtain⟨hN,wX⟩:=H7.o k a nv ha ay;obtain⟨⟨pt,px,rfl⟩,hB⟩:=H8.o k bv p cC hp;obtain⟨np,nn,nc,rfl⟩:=Jk hN;have aE:=W5 nA nvs bvs k a _ _ ha ay cC;have af:=(mq H6.o hf).1;have c0:=(af.cellAt (k*3) (by omega)).trans aE.1;have c1:=(af.cellAt (k*3+1) (by omega)).trans aE.2.1;have c2:=(af.cellAt (k*3+2) (by omega)).trans aE.2.2;have dF:(0:Int)<=(k:Int):=R6 _;have rA:nA.drop k=a::nA.drop (k+1):=by rw[Q2 aj];rw[Iv aj]at ha;cases ha;rfl
   have jS:ag.drop k=p::ag.drop (k+1):=by
    have gu:k<ag.length:=by rw[H3.o];exact aj
    rw[Q2 gu];rw[Iv gu]at hp;cases hp;rfl
   have gO:Mu f (nA.drop (k+1)) (ag.drop (k+1)) (union cur (M6 (f p) (texts a.2)))=Mu f nA ag []:=by rw[<-hE,rA,jS,Mu]
   have sN:=HG.o p;have aD:=JB (f p) (texts a.2);have eI:=Km cur (M6 (f p) (texts a.2));have rG:(union cur (M6 (f p) (texts a.2))).length+((ag.drop (k+1)).map g).sum<=1000000:=by rw[jS,Ki,MW]at hl;omega
   have b1:Hid (cur.length<=1000000):=eu (by omega);have b2:Hid ((f p).length<=1000000/\(M6 (f p) (texts a.2)).length<=1000000/\(texts a.2).length<=1000000):=eu (by rw[jS,Ki,MW]at hl;exact⟨by omega,by omega,by simpa[texts]using wX⟩)
   have fU:=eu (kK gO rG);have C1:=eu (λW(hW:Fr (λ_=>False) wr W)=>hB W (hf.trans hW));have C2:=eu (λW(hW:Fr (λ_=>False) wr W)=>WT (mq hN (hf.trans hW)) wX);have B0:=eu (gH wr [.int .i64 a.1,.slice np nn nc,.iface pt px] 240);have F0:Hid (Fr (λ_=>False) wr (wr.alloc (.cells #[.int .i64 a.1,.slice np nn nc,.iface pt px] 240))):=eu ((eU _ _).alloc _);clear fK hE hl hf ha hp ay cC hN wX hB aE af rA jS gO sN aD eI rG eM;go_wp2_with fail;generalize wr.alloc (.cells #[.int .i64 a.1,.slice np nn nc,.iface pt px] 240)=w1 at B0 F0|-;have B1:=B0;clear B0 c0 c1 c2;have FC:Hid (Fr (λ_=>False) w1 w1.drew):=eu (eU _ _).drew;have q1:=al B1.o 1;have q2:=al B1.o 2;simp at q1 q2
   go_region_held3 (λW=>W.cell? ⟨wr.heap.size,1,none⟩=some (.slice np nn nc)/\W.cell? ⟨wr.heap.size,2,none⟩=some (.iface pt px)) (first|(refine⟨?_,?_⟩<;>assumption)|go_keep) (first
    |(go_at_call 89;with_reducible refine(C1.o _ (F0.o.trans FC.o)).mono ?_;rintro e wA⟨Hq,rfl,tM,oK⟩;have dO:=eu (FC.o.trans oK);(try(have jA:=eu (RB.o.qR oK);clear RB;have RB:=jA;clear jA));have RA:=eu (tM.NB (Kc _));clear FC;have FC:=dO;clear dO;have zt:wA.cell? ⟨wr.heap.size,1,none⟩=some (.slice np nn nc):=(by simpa using al (gd B1.o FC.o) 1);have zw:wA.cell? ⟨wr.heap.size,2,none⟩=some (.iface pt px):=(by simpa using al (gd B1.o FC.o) 2);clear tM oK)
    |(go_at_call 52;with_reducible refine(C2.o _ (F0.o.trans FC.o)).mono ?_;rintro e wB⟨Hu,rfl,tN,oL⟩;have dO:=eu (FC.o.trans oL);(try(have jz:=eu (RA.o.qR oL);clear RA;have RA:=jz;clear jz));have RB:=eu (tN.NB (Kc _));clear FC;have FC:=dO;clear dO;have zu:wB.cell? ⟨wr.heap.size,1,none⟩=some (.slice np nn nc):=(by simpa using al (gd B1.o FC.o) 1);have zx:wB.cell? ⟨wr.heap.size,2,none⟩=some (.iface pt px):=(by simpa using al (gd B1.o FC.o) 2);clear tN oL)
    |(go_at_call 152;refine(WO RA.o RB.o b2.o.1 b2.o.2.2).mono ?_;rintro e wW⟨Hy,rfl,tO,rj⟩;have dO:=eu (FC.o.trans rj);have RW:=eu (tO.NB (Kc _));clear FC;have FC:=dO;clear dO;have zv:wW.cell? ⟨wr.heap.size,1,none⟩=some (.slice np nn nc):=(by simpa using al (gd B1.o FC.o) 1);have zy:wW.cell? ⟨wr.heap.size,2,none⟩=some (.iface pt px):=(by simpa using al (gd B1.o FC.o) 2);clear tO rj)
    |(go_at_call 150;refine(UC (HC.o.qR (F0.o.trans FC.o)) RW.o b1.o b2.o.2.1).mono ?_;rintro e wU⟨vu,rfl,ru,fu⟩;have FU:=eu (FC.o.trans fu);have jP:=eu FC.o.size;have RU:=eu (ru.NB (Kc _));have Dn:=eu ru;have uw:wU.cell? ⟨wr.heap.size,1,none⟩=some (.slice np nn nc):=(by simpa using al (gd B1.o FU.o) 1);have Gd:wU.cell? ⟨wr.heap.size,2,none⟩=some (.iface pt px):=(by simpa using al (gd B1.o FU.o) 2);clear ru fu))
   all_goals
    go_wp2
    go_roundg (nA.length-(k+1))
    case measure=>omega
    case rel=>refine⟨k+1,_,by go_num,by omega,Dn.o.NB ?_,fU.o.1,fU.o.2,HF.o.trans (F0.o.trans FU.o)⟩;exact yM HF.o.size (yM F0.o.size jP.o)
  .have aG:k=nA.length:=by omega
   have hR:cur=Mu f nA ag []:=by rw[<-hE,aG,Jd,Mu];simp
   have HR:=eu hR;clear fK hE hl hf aG eM hR;go_wp2;go_ret;exact⟨_,rfl,HR.o▸HC.o,HF.o⟩
theorem zmm{r:Bool}{l:List Tok}{parts:List Ex}{pvs:List Value}{bt:TypeId}{bx:Value}{lb:List Cp.Nm}{f:Ex->List Cp.Nm}{g:Ex->Nat}(hg:∀e,(f e).length<=g e)(h3:parts.length=l.length)(h4:pvs.length=l.length)(h6:Row S w 312 3 sv l.length (Ob l pvs))(h8:∀(i:Nat)(bv:Value)(p:Ex),pvs[i]?=some bv->parts[i]?=some p->(∃t x,bv=.iface t x)/\Zg w bv (f p))(h9:Zg w (.iface bt bx) lb)(o5:lb.length<=1000000)(hb:(parts.map g).sum<=1000000)(aU:l.length<=1000000):
  Calls prog 151 #[.agg #[.bool r,sv,.iface bt bx]] w λq w'=>∃v',q=.returned v'/\Names w.heap.size w' v' (union (if r then M6 (M7 f parts []) (texts l)else M7 f parts []) (M6 lb (texts l)))/\Fr (λ_=>False) w w':=by
 have eM:=Mq h6;obtain⟨sa,sn,sc,rfl⟩:=Jk h6;have fD:sn=l.length:=by
  rcases h6.1.2 with⟨h,h0⟩|⟨_,_,_,h0,_⟩
  .cases h;exact h0.symm
  .cases h0;rfl
 subst fD;have bR:∀(i:Nat)(pv:Value),pvs[i]?=some pv->pv.oneCell'=true:=λi pv hp=>by
  have:i<parts.length:=by rw[h3,<-h4];exact(Dq.1 hp).1
  obtain⟨⟨t,x,rfl⟩,_⟩:=h8 i pv parts[i] hp (Iv this);rfl
 have f0:Fr (λ_=>False) w (w.alloc (.cells #[.bool r,.slice sa l.length sc,.iface bt bx] 178)):=(eU _ _).alloc _;have ek:=eu (Yh (rb:=r) (bt:=bt) (bx:=bx) (mq h6 f0) h4 bR aU);have yR:=eu (gH w [.bool r,.slice sa l.length sc,.iface bt bx] 178);have F0:=eu f0;have H3:=eu h3;have H4:=eu h4;have H6:=eu h6;have H8:=eu h8;have H9:=eu h9;have HB:=eu hb;have HG:=eu hg;have mC:Hid ((texts l).length<=1000000):=eu (by simpa[texts]using aU);clear h3 h4 h6 h8 hb hg h9 bR f0;go_enter func151,ntmps151;go_wp2_with fail;refine ek.o.mono ?_;clear ek;rintro en w1⟨tv,rfl,eC,aA⟩;obtain⟨ta,tn,tc,rfl⟩:=OG eC;have f1:Fr (λ_=>False) (w.alloc (.cells #[.bool r,.slice sa l.length sc,.iface bt bx] 178)) w1:=oq aA;have HT:Hid (Names 0 w1 (.slice ta tn tc) (texts l)):=eu (Ib (lP (by simpa[texts]using eC)) (Kc _));have my:=eu (gd yR.o f1);have F1:=eu (F0.o.trans f1);have q1:=al my.o 1;simp at q1;clear eC aA f1 yR F0;go_wp2_with fail;clear q1
 go_loopg [4,12] l.length (λgk v iv wr=>∃(k:Nat)(cur:List Cp.Nm),iv=.int .i64 k/\k+gk=l.length/\Names w.heap.size wr v cur/\M7 f (parts.drop k) cur=M7 f parts []/\cur.length+((parts.drop k).map g).sum<=1000000/\Fr (λ_=>False) w1 wr)
 case atStart=>exact⟨0,[],rfl,by omega,⟨kt _ _ _ _,by simp[Value.ownBlock]⟩,by simp,by simpa using HB.o,eU _ _⟩
 case round=>
  obtain⟨k,cur,rfl,hk,fK,hE,hl,hf⟩:=hrel;obtain⟨va,vn,vc,rfl⟩:=Jk fK;have HC:=eu fK;have HE:=eu hE;have HL:=eu hl;have HF:=eu hf;by_cases aj:k<l.length
  .obtain⟨gb,jw⟩:∃gb,sa=some ⟨gb,0,none⟩:=by
    rcases eM with h|⟨g,cap,h⟩
    .have:=(nD h).2.1;omega
    .exact⟨g,(nD h).1⟩
   subst jw;obtain⟨a,ha⟩:∃a,l[k]?=some a:=⟨l[k],Iv aj⟩;obtain⟨p,hp⟩:∃p,parts[k]?=some p:=⟨_,Iv (by rw[H3.o];exact aj)⟩;obtain⟨bv,cC⟩:∃bv,pvs[k]?=some bv:=⟨_,Iv (by rw[H4.o];exact aj)⟩;obtain⟨⟨pt,px,rfl⟩,hB⟩:=H8.o k bv p cC hp;have aE:=Tj l pvs k a _ ha cC;have af:=(mq H6.o (F1.o.trans hf)).1;have c0:=(af.cellAt (k*3) (by omega)).trans aE.1;have c1:=(af.cellAt (k*3+1) (by omega)).trans aE.2.1;have c2:=(af.cellAt (k*3+2) (by omega)).trans aE.2.2;have dF:(0:Int)<=(k:Int):=R6 _;have jS:parts.drop k=p::parts.drop (k+1):=by
    have gu:k<parts.length:=by rw[H3.o];exact aj
    rw[Q2 gu];rw[Iv gu]at hp;cases hp;rfl
   have gO:M7 f (parts.drop (k+1)) (union cur (f p))=M7 f parts []:=by rw[<-hE,jS,M7]
   have sN:=HG.o p;have eI:=Km cur (f p);have rG:(union cur (f p)).length+((parts.drop (k+1)).map g).sum<=1000000:=by rw[jS,Ki,MW]at hl;omega
   have b1:Hid (cur.length<=1000000):=eu (by omega);have b2:Hid ((f p).length<=1000000):=eu (by rw[jS,Ki,MW]at hl;omega)
   have fU:=eu (kK gO rG);have C1:=eu (λW(hW:Fr (λ_=>False) wr W)=>hB W (F1.o.trans (hf.trans hW)));have F2:Hid (Fr (λ_=>False) wr (wr.alloc (.cells #[.string ⟨a.s.toArray⟩,.int .i64 a.at_,.iface pt px] 312))):=eu ((eU _ _).alloc _);clear fK hE hl hf ha hp cC hB aE af jS gO sN eI rG eM;go_wp2_with fail;refine(C1.o _ F2.o).mono ?_;rintro e wA⟨vx,rfl,ra,fa⟩;obtain⟨xa,xn,xc,rfl⟩:=Jk ra;have RA:=eu ra;have FA:=eu (F2.o.trans fa);clear ra fa c0 c1 c2;go_wp2_with fail;refine(UC (HC.o.qR FA.o) RA.o b1.o b2.o).mono ?_;rintro e wU⟨vu,rfl,ru,fu⟩;have RU:=eu ru;have FU:=eu fu;clear ru fu;go_wp2
   go_roundg (l.length-(k+1))
   case measure=>omega
   case rel=>refine⟨k+1,_,by go_num,by omega,RU.o.NB ?_,fU.o.1,fU.o.2,HF.o.trans (FA.o.trans FU.o)⟩;exact yM F1.o.size (yM HF.o.size FA.o.size)
  .have aG:k=l.length:=by omega
   have hR:cur=M7 f parts []:=by rw[<-hE,aG,<-H3.o,Jd,M7]
   have wY:Hid (cur.length<=1000000):=eu (by omega);have HR:=eu hR;have fU:=eu (gd my.o hf);have e0:=al fU.o 0;have e2:=al fU.o 2;simp at e0 e2;have C1:=eu (λW(hW:Fr (λ_=>False) wr W)=>H9.o W (F1.o.trans (HF.o.trans hW)));have zd:=eu (yM F1.o.size HF.o.size);clear fK hE hl hf aG eM hR;cases r
   .have hR:=HR.o;subst hR;have FZ:=eu (eU (λ_=>False) wr);have LZ:=eu (HC.o.NB (Kc _));have LN:=wY;go_wp2_with fail;refine(C1.o _ FZ.o).mono ?_;rintro e wA⟨vx,rfl,ra,fa⟩;obtain⟨xa,xn,xc,rfl⟩:=Jk ra;have RA:=eu ra;have FA:=eu (FZ.o.trans fa);have LC:=eu (LZ.o.qR fa);clear ra fa e0 e2;go_wp2_with fail;refine(WO RA.o (HT.o.qR (HF.o.trans FA.o)) o5 mC.o).mono ?_;rintro e wB⟨vx,rfl,ra,fa⟩;obtain⟨ya,yn,yc,rfl⟩:=Jk ra;have RB:=eu ra;have FB:=eu (FA.o.trans fa);have LD:=eu (LC.o.qR fa);clear ra fa;go_wp2_with fail;refine(UC LD.o RB.o LN.o (yM (JB _ _) o5)).mono ?_;rintro e wU⟨vu,rfl,ru,fu⟩;have RU:=eu ru;have FU:=eu fu;clear ru fu;go_wp2;go_ret;refine⟨_,rfl,?_,F1.o.trans (HF.o.trans (FB.o.trans FU.o))⟩;exact Ib RU.o (yM zd.o FB.o.size)
   .have hR:=HR.o;subst hR;go_wp2_with fail;refine(WO HC.o (HT.o.qR HF.o) wY.o mC.o).mono ?_;rintro e wz⟨vx,rfl,rz,fz⟩;obtain⟨za,zn,zc,rfl⟩:=Jk rz;have LZ:=eu (rz.NB (Kc _));have FZ:=eu fz;have LN:=eu (yM (JB (M7 f parts []) (texts l)) wY.o);clear rz e0 e2;have yS:=eu (gd fU.o fz);have e0:=al yS.o 0;have e2:=al yS.o 2;simp at e0 e2;clear fz;go_wp2_with fail;refine(C1.o _ FZ.o).mono ?_;rintro e wA⟨vx,rfl,ra,fa⟩;obtain⟨xa,xn,xc,rfl⟩:=Jk ra;have RA:=eu ra;have FA:=eu (FZ.o.trans fa);have LC:=eu (LZ.o.qR fa);clear ra fa e0 e2;go_wp2_with fail;refine(WO RA.o (HT.o.qR (HF.o.trans FA.o)) o5 mC.o).mono ?_;rintro e wB⟨vx,rfl,ra,fa⟩;obtain⟨ya,yn,yc,rfl⟩:=Jk ra;have RB:=eu ra;have FB:=eu (FA.o.trans fa);have LD:=eu (LC.o.qR fa);clear ra fa;go_wp2_with fail;refine(UC LD.o RB.o LN.o (yM (JB _ _) o5)).mono ?_;rintro e wU⟨vu,rfl,ru,fu⟩;have RU:=eu ru;have FU:=eu fu;clear ru fu;go_wp2;go_ret;refine⟨_,rfl,?_,F1.o.trans (HF.o.trans (FB.o.trans FU.o))⟩;exact Ib RU.o (yM zd.o FB.o.size)
theorem zvy{r:Bool}(c1:∀W,Fr (λ_=>False) w W->Calls prog 151 #[.agg #[.bool r,.slice p m cp,.iface t1 x1]] W λr w'=>∃v',r=.returned v'/\Names W.heap.size w' v' l/\Fr (λ_=>False) W w'):
  Calls prog 89 #[.iface 178 (.agg #[.bool r,.slice p m cp,.iface t1 x1])] w λr w'=>∃v',r=.returned v'/\Names w.heap.size w' v' l/\Fr (λ_=>False) w w':=by
 have C1:=eu c1;clear c1;obtain⟨i3,i0,-,-,i1,i2,-⟩:=Ug;have F0:Hid (Fr (λ_=>False) w (w.alloc (.cells #[.bool r,.slice p m cp,.iface t1 x1] 178))):=eu ((eU _ _).alloc _);go_enter func89,ntmps89;go_wp2_with fail;refine(C1.o _ F0.o).mono ?_;rintro e wA⟨vx,rfl,ra,fa⟩;have RA:=eu ra;have FA:=eu fa;clear ra fa i0 i1 i2 i3;go_wp2;go_ret;exact⟨_,rfl,RA.o.NB F0.o.size,F0.o.trans FA.o⟩
theorem zpX{g:Ex->Nat}:∀{l:List Ex}{k:Nat}{p:Ex},l[k]?=some p->g p<=(l.map g).sum
 |[],k,p,h=>by simp at h
 |a::l,0,p,h=>by simp at h;subst h;simp
 |a::l,k+1,p,h=>by have:=zpX (g:=g) (l:=l) (k:=k) (p:=p) (by simpa using h);simp;omega
theorem YK:∀{l:List (Nat × List Tok)}{k:Nat}{a:Nat × List Tok},l[k]?=some a->1+a.2.length<=(l.map λa=>1+a.2.length).sum
 |[],k,p,h=>by simp at h
 |a::l,0,p,h=>by simp at h;subst h;simp
 |a::l,k+1,p,h=>by have:=YK (l:=l) (k:=k) (a:=p) (by simpa using h);simp;omega
theorem zl4:∀(l:List (Nat × List Tok)),l.length<=(l.map λa=>1+a.2.length).sum
 |[]=>by simp
 |a::l=>by have:=zl4 l;simp;omega
theorem Xn(n:Nat):zye n:=by
 induction n with
 |zero=>intro S w v e h;exact h.elim
 |succ n ih=>
  intro S w v e h hw;have at_:∀{bv:Value}{b:Ex},qU S w n bv b->Cp.wt n b<=1000000->Zg w bv (Cp.free n b):=λhr hb W hW=>ih (hr.qR hW) hb
  have fl:=IK n;rw[Cp.wt]at hw;rcases h with⟨hk,rfl⟩|⟨hk,rfl⟩|⟨hk,rfl⟩|⟨hk,sv,bv,b,h1,rfl,h3,h4⟩|⟨hk,v1,v2,e1,e2,h1,rfl,h3,h4⟩|⟨hk,v1,v2,e1,e2,h1,rfl,h3,h4⟩|⟨hk,sv,bv,b,parts,pvs,h1,rfl,h3,h4,h5,h6,h7⟩|⟨hk,cv,sv,b,ag,nvs,bvs,h1,rfl,h3,h4,h5,h6,h7,h8,h9⟩
  .rw[show Cp.free (n+1) e=[] by simp[Cp.free,hk]];exact zpt
  .rw[show Cp.free (n+1) e=[e.tok.s] by simp[Cp.free,hk]];exact zvz
  .rw[show Cp.free (n+1) e=[] by simp[Cp.free,hk]];exact zrw
  .obtain⟨t,x,rfl⟩:=JQ h4;obtain⟨a,m,c,rfl⟩:=Jk h3;rw[show Cp.free (n+1) e=M6 (Cp.free n b) (texts e.names) by simp[Cp.free,hk,h1]];rw[h1]at hw;simp at hw;have:=fl b;refine zps (by omega) (by simp[texts];omega) (at_ h4 (by omega)) (λW hW=>?_);exact WT (mq h3 hW)
  .obtain⟨t,x,rfl⟩:=JQ h3;obtain⟨t2,x2,rfl⟩:=JQ h4;rw[show Cp.free (n+1) e=union (Cp.free n e1) (Cp.free n e2) by simp[Cp.free,hk,h1]];rw[h1]at hw;simp at hw;have:=fl e1;have:=fl e2;exact ztb (by omega) (by omega) (at_ h3 (by omega)) (at_ h4 (by omega))
  .obtain⟨t,x,rfl⟩:=JQ h3;obtain⟨t2,x2,rfl⟩:=JQ h4;rw[show Cp.free (n+1) e=union (Cp.free n e1) (Cp.free n e2) by simp[Cp.free,hk,h1]];rw[h1]at hw;simp at hw;have:=fl e1;have:=fl e2;exact zkB (by omega) (by omega) (at_ h3 (by omega)) (at_ h4 (by omega))
  .obtain⟨t,x,rfl⟩:=JQ h7;obtain⟨a,m,c,rfl⟩:=Jk h5;have hE:Cp.free (n+1) e=union (if(e.kind == 8)=true then M6 (M7 (Cp.free n) parts []) (texts e.names)else M7 (Cp.free n) parts []) (M6 (Cp.free n b) (texts e.names)):=by
    rcases hk with hk|hk<;>simp[Cp.free,hk,h1]
   rw[hE];rw[h1]at hw;simp only[Ki,MW]at hw;have:=fl b;refine zvy (λW hW=>?_);refine zmm fl h3 h4 (mq h5 hW) (λi bv p hi hp=>⟨JQ (h6 i bv p hi hp),λW' bQ=>?_⟩) (λW' bQ=>ih (h7.qR (hW.trans bQ)) (by omega)) (by omega) (by omega) (by omega);exact ih ((h6 i bv p hi hp).qR (hW.trans bQ)) (by have:=zpX (g:=Cp.wt n) hp;omega)
  .obtain⟨t,x,rfl⟩:=JQ h9;obtain⟨a,m,c,rfl⟩:=Jk h6;rw[show Cp.free (n+1) e=union (Cp.free n b) (Mu (Cp.free n) e.nA ag []) by simp[Cp.free,hk,h1]];rw[h1]at hw;simp only[Ki,MW]at hw;have:=fl b;have:=zl4 e.nA;have:=Ut (Cp.free n) (Cp.wt n) fl e.nA ag [];simp only[My,On]at this;refine ztc (by omega) (by omega) (at_ h9 (by omega)) (λW hW=>?_);refine zf8 fl h3 h4 h5 (mq h6 hW) (λi a nv hi hv=>⟨mq (h7 i a nv hi hv) hW,by have:=YK hi;omega⟩) (λi bv p hi hp=>⟨JQ (h8 i bv p hi hp),λW' bQ=>?_⟩) (by omega) (by omega);exact ih ((h8 i bv p hi hp).qR (hW.trans bQ)) (by have:=zpX (g:=Cp.wt n) hp;omega)
end
end Go.Proofs.YtgahgkddaljmkaaGreatDoor
