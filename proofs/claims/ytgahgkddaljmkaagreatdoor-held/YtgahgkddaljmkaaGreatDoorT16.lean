/- Sf3 .. Gc11 -/
import Derived.Test.YtgahgkddaljmkaaGreatDoorT15
set_option maxRecDepth 100000
set_option maxHeartbeats 4000000
namespace Go.Proofs.YtgahgkddaljmkaaGreatDoor
open Tryz
namespace Sf
open Cp (Nm)
open Ab
variable {X:Cx} {h h':List Nd} {A A':Ma} {base F ws:List Wd} {zac more names:List Nm} {q:Cp.Bs} {n below:Nat} {e:Th.Ex} {S:List Wd} {B:List Nat}
theorem zjk(hX:X.cd.length<=1000000)(hn:n+1<=X.N):∀ (l:List Th.Ex) (q:Cp.Bs),X.fns.length<=q.blocks.length->(∀ x∈l,Cp.Dp n x/\Cp.wt X.N x<=1300/\Kn X (X.fr x) q.zac)->znn X (l.foldl (Cp.zaI (X.wk n) X.fr X.fns) q).blocks ->
  ∃ is,(l.foldl (Cp.zaI (X.wk n) X.fr X.fns) q).code=q.code++is/\∀ {A base F},Ru X A q.zac base F->Ok (X.ri is A) (zw4 X A l.length)
 |[],q,_,_,_=>⟨[],by simp,fun {A _ _} r=>.done ⟨[],rfl,by simp,by simp,rfl,r.zct,G.refl _,zyN _⟩⟩
 |x::l,q,hq,hl,hs=>by
  obtain ⟨d1,d2,d3⟩:=hl x (by simp);rw[zz2]at hs ⊢;obtain ⟨bl,c,h1,_⟩:=Cp.zpz (X.wk n) X.fr X.fns q x;have aK:(Cp.zaI (X.wk n) X.fr X.fns q x).zac=q.zac++[[]]:=by rw[h1]
  have hx:=Cp.zeN (M:=1300) (N:=X.N) (by omega) (Cp.zbC X.N X.fns (by omega) n) (Cp.zaK 1300 X.N X.fns n) X.fns l (Cp.zaI (X.wk n) X.fr X.fns q x) (fun y hy=>by
   obtain ⟨g1,g2,_⟩:=hl y (by simp[hy]);exact ⟨g1,g1.le (by omega),g2⟩)
  have cX:=Cp.zmi (M:=1300) (N:=X.N) (by omega) (Cp.zbC X.N X.fns (by omega) n) (Cp.zaK 1300 X.N X.fns n) X.fns q (.inl d1) (d1.le (by omega)) d2;obtain ⟨i1,e1,r1⟩:=zqy hX (.inl d1) hn d2 hq (hs.ext hx) d3;obtain ⟨i2,e2,r2⟩:=zjk hX hn l _ (zf6 cX hq) (fun y hy=>by
   obtain ⟨g1,g2,g3⟩:=hl y (by simp[hy]);exact ⟨g1,g2,by rw[aK];exact g3.app _⟩) hs
  refine ⟨i1++i2,by rw[e2,e1,zzk],fun r=>zb3 ((r1 r).mono fun A' ⟨w,w1,w2⟩=>?_)⟩;rw[aK]at r2;exact (r2 (r.next w2 (FO.none _ (k:=1) rfl))).mono fun A2 k=>k.cons w1 w2
def HL (h:List Nd):List Wd->List (List Nm)->Prop
 |[],[]=>True
 |w::ws,ns::l=>(∃ a b fs,w=.ad a/\h[a]?=some (.clo b fs)/\fs.length=ns.length)/\HL h ws l
 |_,_=>False
theorem HL.up(g:G h h'):∀ {ws:List Wd} {l:List (List Nm)},HL h ws l->HL h' ws l
 |[],[],_=>trivial
 |[],_::_,k=>k.elim
 |_::_,[],k=>k.elim
 |w::ws,ns::l,⟨⟨a,b,fs,e1,e2,e3⟩,k⟩=>by
  obtain ⟨nd,g1,g2⟩:=g a _ e2;obtain ⟨gs,rfl,g3⟩:=zt4 g2;exact ⟨⟨a,b,gs,e1,g1,by omega⟩,k.up g⟩
theorem HL.len:∀ {ws:List Wd} {l:List (List Nm)},HL h ws l->ws.length=l.length/\∀ w∈ws,Ad h w
 |[],[],_=>⟨rfl,by simp⟩
 |[],_::_,k=>k.elim
 |_::_,[],k=>k.elim
 |w::ws,ns::l,⟨⟨a,b,fs,e1,e2,e3⟩,k⟩=>by
  obtain ⟨k1,k2⟩:=k.len;refine ⟨by simp[k1],fun v hv=>?_⟩;rcases zzo.1 hv with rfl|hv
  ·exact ⟨a,e1,(zyL.1 e2).1⟩
  ·exact k2 v hv
theorem ziP(hX:X.cd.length<=1000000)(hn:n+1<=X.N):∀ (l:List Th.Ex) (b:Cp.Bs) (a:List (List Nm)),X.fns.length<=b.blocks.length->(∀ x∈l,Cp.Dp n x/\Cp.wt X.N x<=1300/\Kn X (X.fr x) b.zac)->znn X (Cp.makeAll (X.wk n) X.fr l b a).1.blocks ->
  ∃ is nms,(Cp.makeAll (X.wk n) X.fr l b a).1.code=b.code++is/\(Cp.makeAll (X.wk n) X.fr l b a).1.zac=b.zac/\(Cp.makeAll (X.wk n) X.fr l b a).2=a++nms/\nms.length=l.length/\(∀ ns∈nms,Kn X ns b.zac)/\∀ {A},Good X.sys A->Ok (X.ri is A) fun A'=>∃ ws,HL A'.h ws nms/\Nx X A A' ws
 |[],b,a,_,_,_=>⟨[],[],by simp[Cp.makeAll],rfl,by simp[Cp.makeAll],rfl,by simp,fun {A} g=>.done ⟨[],trivial,by simp,rfl,g,G.refl _,zyN _⟩⟩
 |p::l,b,a,hq,hl,hs=>by
  obtain ⟨d1,d2,d3⟩:=hl p (by simp);rw[Cp.makeAll]at hs ⊢;obtain ⟨c,hc⟩:∃ c,c=Cp.zal (X.wk n) X.fr b p:=⟨_,rfl⟩;have aE:=Cp.zck (X.wk n) X.fr b p;have cX:=Cp.zgm (M:=1300) (N:=X.N) (by omega) (Cp.zbC X.N X.fns (by omega) n) (Cp.zaK 1300 X.N X.fns n) b (.inl d1) (d1.le (by omega)) d2;have wK:c.2.2=Cp.zai b.zac (X.fr p):=by rw[hc];rfl
  have rX:=fun hs=>zsP (X:=X) (n:=n) (q:=b) (e:=p) (.inl d1) hn d2 hq hs d3
  rw[<-hc]at hs aE cX rX ⊢;have hx:=Cp.zmj (M:=1300) (N:=X.N) (by omega) (Cp.zbC X.N X.fns (by omega) n) (Cp.zaK 1300 X.N X.fns n) l (c.1.write (.hold c.2.1 c.2.2.length)) (a++[c.2.2]) (fun y hy=>by
   obtain ⟨g1,g2,_⟩:=hl y (by simp[hy]);exact ⟨g1,g1.le (by omega),g2⟩)
  obtain ⟨n2,k,n3,n4⟩:=rX (znn.ext (q:=c.1.write (.hold c.2.1 c.2.2.length)) hs hx);have hb:=n4.lt hX;obtain ⟨is,nms,m1,m2,m3,m4,m5,m6⟩:=ziP hX hn l (c.1.write (.hold c.2.1 c.2.2.length)) (a++[c.2.2]) (zf6 (q':=c.1) cX hq) (fun y hy=>by
   obtain ⟨g1,g2,g3⟩:=hl y (by simp[hy]);exact ⟨g1,g2,by show Kn X _ c.1.zac;rw[aE.1];exact g3⟩) hs
  have po:(c.1.write (.hold c.2.1 c.2.2.length)).zac=b.zac:=aE.1;refine ⟨.hold c.2.1 c.2.2.length::is,c.2.2::nms,by rw[m1];simp[Cp.Bs.write,aE.2],m2.trans po,by rw[m3];simp,by simp[m4],fun ns hm=>?_,fun {A} g=>zb3 (a:=[_]) (ri1 fun _=>?_)⟩
  ·rcases zzo.1 hm with rfl|hm
   ·rw[wK];exact d3.sub fun x hx=>(Cp.zbK.1 hx).1
   ·have:=m5 ns hm
    rwa [po]at this
  ·simp only[Ma.step,Ma.hold];rw[if_pos ⟨by omega,by rw[wK];omega⟩];refine zgM (.done ((m6 ?_).mono fun A2 ⟨ws,w1,w2⟩=>?_))
   ·refine ⟨g.1.app ⟨fun f hf=>?_,k,by simp only[zzz];rw[wK];exact n3,n4⟩,g.2.1,zyR g.2.2 (by simp)⟩;rw[zzQ hf];simp
   ·obtain ⟨nd,g1,g2⟩:=w2.g A.h.length (.clo c.2.1 (List.replicate c.2.2.length A.h.length)) (by simp);obtain ⟨gs,rfl,g3⟩:=zt4 g2;exact ⟨.ad A.h.length::ws,⟨⟨_,_,gs,rfl,g1,by rw[g3];simp⟩,w1⟩,by rw[w2.st];simp,w2.below,w2.zct,(G.app _).trans w2.g,zyR w2.fuel (Nat.sub_le _ _)⟩
theorem zqv:∀ (nms:List (List Nm)) (i:Nat) (b:Cp.Bs),(∀ ns∈nms,Kn X ns b.zac) ->
  ∃ is,(Cp.zbf X.fns i nms b).code=b.code++is/\∀ {A base P ws},Ru X A b.zac base (P++ws)->P.length=i->HL A.h ws nms->Ok (X.ri is A) fun A'=>Nx X A A' []
 |[],i,b,_=>⟨[],by simp[Cp.zbf],fun {A _ _ _} r _ _=>.done ⟨by simp,rfl,r.zct,G.refl _,zyN _⟩⟩
 |ns::l,i,b,hk=>by
  rw[Cp.zbf];obtain ⟨i1,u1,r1⟩:=zfF (X:=X) b (hk ns (by simp));have hb:(Cp.Bs.write (Cp.Bs.drop (b.zak X.fns ns) ns.length) (.fill i ns.length))=⟨b.blocks,b.zac,b.code++(i1++[.fill i ns.length])⟩:=by
   rw[u1];simp[Cp.Bs.write,Cp.Bs.drop]
  rw[hb];obtain ⟨i2,e2,r2⟩:=zqv l (i+1) ⟨b.blocks,b.zac,b.code++(i1++[.fill i ns.length])⟩ (fun m hm=>hk m (by simp[hm]));refine ⟨(i1++[.fill i ns.length])++i2,by rw[e2];simp,fun {A base P ws} r hP hl=>?_⟩;cases ws with
  |nil=>exact hl.elim
  |cons w ws=>
   refine zb3 (zb3 ((r1 r).mono fun A1 ⟨vs,v1,v2,v3⟩=>ri1 fun _=>?_));obtain ⟨⟨a,bk,fs,e1,e3,e4⟩,aC⟩:=hl.up v3.g;have aK:Ma.slot { A1 with fuel:=A1.fuel-1 } i=some w:=(r.next v3 (FO.none _ v1)).slot (by rw[<-hP];simp);obtain ⟨gs,t1,t2,t3⟩:=zm9 A.st v2;simp only[Ma.step,Ma.fill];rw[aK,e1];simp only;rw[e3];simp only;rw[if_pos e4,v3.st,<-v1,t1,zef];have hg:G A1.h (A1.h.set a (.clo bk gs)):=fun c nd hc=>by
    rw[zyV];split
    ·next ec=>
     subst ec;rw[e3]at hc;cases hc;exact ⟨.clo bk gs,by rw[if_pos (zyL.1 e3).1],by simp[sh];omega⟩
    ·exact ⟨nd,hc,rfl⟩
   obtain ⟨k1,k,k2,k3⟩:=v3.zct.1 a _ e3;have gJ:Good X.sys { A1 with h:=A1.h.set a (.clo bk gs),st:=A.st,fuel:=A1.fuel-1 }:=⟨v3.zct.1.set hg.gv ⟨fun f hf=>zyS (t3 f hf) hg.len,k,by omega,k3⟩,v3.zct.2.1,zyR v3.zct.2.2 hg.len⟩;refine .done ((r2 (base:=base) (P:=P++[w]) (ws:=ws) ⟨by simp only;rw[r.st];simp,by simp only;rw[v3.below];exact r.below,gJ,?_⟩ (by simp[hP]) (aC.up hg)).mono fun A2 k2=>⟨k2.st,k2.below.trans v3.below,k2.zct,(v3.g.trans hg).trans k2.g,zyR k2.fuel (zyR (Nat.sub_le _ _) v3.fuel)⟩);have:=r.fo.up (zyR v3.g.len hg.len);simpa using this
def Wk (X:Cx) (zac:List Nm) (below:Nat) (is:List Ins):Prop:=∀ {A base F0 κ B},κ.length=below->Ru X A zac base (F0++κ)->K X.sys A.h (base++κ) B->BZ A.h B->Ok (X.ri is A) fun A'=>Cf X.sys A'/\A'.fuel<A.fuel
def zq8 (X:Cx) (n:Nat):Prop:=∀ {e below q},Wq X n e below q->∃ is,(X.wk n e below q).code=q.code++is/\Wk X q.zac below is
variable {c:Nat}
theorem zwY{T:List Wd}(hs:A.st=base++F++T)(hb:A.below=base.length)(hT:T.length=c):Ok (X.ri [.zci c] A) fun A'=>A'={ A with st:=base++T,fuel:=A.fuel-1 }:=by
 refine ri1 fun _=>?_
 simp only[Ma.step,Ma.zci];rw[hb,if_pos ⟨by omega,by rw[zy2,hs];simp;omega⟩,zy2];have h1:A.st.take base.length=base:=by rw[hs,zzk,List.take_left]
 have h2:A.st.drop (A.st.length-c)=T:=by rw[hs,show (base++F++T).length-c=(base++F).length by simp;omega,List.drop_left]
 rw[h1,h2];exact .done rfl
variable {w:Wd}
theorem zsW(hs:A.st=S++[w])(hw:Ad A.h w)(hK:K X.sys A.h S B)(hB:BZ A.h B)(hG:Good X.sys A):Ok (X.ri [.enter] A) fun A'=>Cf X.sys A'/\A'.fuel<A.fuel:=by
 obtain ⟨a,rfl,ha⟩:=hw;exact ri1 fun h0=>(enter (A:={ A with fuel:=A.fuel-1 }) hs ha hK hB hG).mono fun A' ⟨c,f⟩=>⟨c,by rw[f];simp only;omega⟩
theorem zd8(hX:X.cd.length<=1000000)(hw:Wq X (n+1) e below q)(hk:e.kind<=4):∃ is,(X.wk (n+1) e below q).code=q.code++is/\Wk X q.zac below is:=by
 obtain ⟨h1,h2,h3,h4,h5,h6⟩:=hw;have he:X.wk (n+1) e below q=(Cp.zaI (X.wk n) X.fr X.fns q e).ends (below+1) .enter:=by
  show Cp.work _ _ _ _ _ _=_;rw[Cp.work,if_neg (by omega),if_neg (by omega),if_neg (by omega),if_neg (by omega)]
 rw[he]at h5 ⊢;obtain ⟨is,e1,r1⟩:=zqy hX (.inr ⟨hk,h1⟩) h2 h3 h4 h5 h6;refine ⟨is++([.zci (below+1)]++[.enter]),by simp[Cp.Bs.ends,Cp.Bs.write,e1],fun {A base F0 κ B} hκ r hK hB=>zb3 ((r1 r).mono fun A1 ⟨w,w1,w2⟩=>zb3 ?_)⟩;refine (zwY (X:=X) (base:=base) (F:=F0) (T:=κ++[w]) (by rw[w2.st,r.st];simp) (w2.below.trans r.below) (by simp[hκ])).mono fun A2 e2=>?_
 have hf:=w2.fuel;refine (zsW (S:=base++κ) (B:=B) (w:=w) (by rw[e2];simp) (by rw[e2];exact w1) (by rw[e2];exact hK.up w2.g.gv) (by rw[e2];exact w2.g.bz hB) (by rw[e2];exact w2.zct)).mono fun A3 ⟨c,f⟩=>⟨c,?_⟩
 rw[e2]at f;simp only at f;omega
theorem zkp(hX:X.cd.length<=1000000)(ih:zq8 X n)(hw:Wq X (n+1) e below q)(hk:e.kind=5):∃ is,(X.wk (n+1) e below q).code=q.code++is/\Wk X q.zac below is:=by
 obtain ⟨h1,h2,h3,h4,h5,h6⟩:=hw;have dD:=h1.le h2;obtain ⟨f,a,a7⟩:=h1.zea.k5 (.inl hk);obtain ⟨s1,s2,s3⟩:=Cp.zeY (n+1) e dD;obtain ⟨s5,s6⟩:=Cp.zgt (n+1) e dD hk;obtain ⟨d1,d2⟩:=Cp.zjV (n:=n) n e f a a7 h1;have s4:=Cp.zhU (m:=n) a7;have he:X.wk (n+1) e below q=X.wk n (Cp.spread (n+1) e).1 (below+(Cp.spread (n+1) e).2.length+1) (((Cp.spread (n+1) e).2.reverse.foldl (Cp.zaI (X.wk n) X.fr X.fns) q).push (.zbF (Cp.spread (n+1) e).2.length)):=by
  show Cp.work _ _ _ _ _ _=_;rw[Cp.work,if_pos hk]
 rw[he]at h5 ⊢;generalize Cp.spread (n+1) e=s at *;obtain ⟨fe,es⟩:=s;simp only at s1 s2 s3 s4 s5 s6 d1 d2 h5 ⊢;have cQ:∀ x∈es.reverse,Cp.Dp n x/\Cp.wt X.N x<=1300/\Kn X (X.fr x) q.zac:=fun x hx=>by
  have ij:x∈es:=by simpa using hx
  exact ⟨d2 x ij,by have:=Cp.zbj (f:=Cp.wt X.N) ij;omega,h6.sub (s6 x ij)⟩
 have pU:=Cp.zbC (M:=1300) X.N X.fns (by omega) n;have ic:=Cp.zaK 1300 X.N X.fns n;have ee:=Cp.zeN (M:=1300) (N:=X.N) (by omega) pU ic X.fns es.reverse q (fun x hx=>⟨(cQ x hx).1,s3 x (by simpa using hx),(cQ x hx).2.1⟩);obtain ⟨_,a2,_⟩:=Cp.zcf ic X.fns es.reverse q (fun x hx=>⟨s3 x (by simpa using hx),(cQ x hx).2.1⟩);obtain ⟨tE,_⟩:=pU fe (below+es.length+1) ((es.reverse.foldl (Cp.zaI (X.wk n) X.fr X.fns) q).push (.zbF es.length)) d1 s2 (by omega);obtain ⟨i1,e1,r1⟩:=zjk hX h2 es.reverse q h4 cQ (h5.ext ((Cp.zcF _ (.zbF es.length) trivial).trans tE));have aK:((es.reverse.foldl (Cp.zaI (X.wk n) X.fr X.fns) q).push (.zbF es.length)).zac=q.zac++(List.replicate es.length []++[[]]):=by
  simp only[Cp.Bs.push];rw[a2];simp
 obtain ⟨i2,e2,r2⟩:=ih (e:=fe) (below:=below+es.length+1) (q:=(es.reverse.foldl (Cp.zaI (X.wk n) X.fr X.fns) q).push (.zbF es.length)) ⟨d1,by omega,by omega,zf6 (ee.trans (Cp.zcF _ _ trivial)) h4,h5,by rw[aK];exact (h6.sub s5).app _⟩;rw[aK]at r2;refine ⟨i1++([.zbF es.length]++i2),by rw[e2];simp only[Cp.Bs.push];rw[e1];simp,fun {A base F0 κ B} hκ r hK hB=>zb3 ((r1 r).mono fun A1 ⟨ws,v1,v2,v3⟩=>zb3 (ri1 fun _=>?_))⟩;rw[zy4]at v1;simp only[Ma.step];rw[if_pos (by omega)];refine (zrO (X:=X) (w:=.mk 2 es.length) v3.zct rfl).mono fun A2 ⟨eh,nx⟩=>?_
 have nj:=v3.trans nx;have hf:=nj.fuel;have rE:K X.sys A2.h (base++κ++(ws++[.mk 2 ws.length])) B:=.args (hK.up nj.g.gv) (by rw[eh];exact v2) (by omega) (by omega);refine (r2 (A:=A2) (base:=base) (F0:=F0) (κ:=κ++(ws++[.mk 2 es.length])) (B:=B) (by simp[v1,hκ];omega) ?_ (by rw[v1]at rE;rw[<-zzk];exact rE) (nj.g.bz hB)).mono fun A3 ⟨c,f⟩=>⟨c,by omega⟩
 have:=r.next nj ((FO.none A2.h v1).app (FO.none (ws:=[.mk 2 es.length]) _ (k:=1) rfl));simpa using this
variable {b:Nat}
theorem zoU(ih:zq8 X n){l:Th.Ex}{bl:List (Nat × List Ins)}(d1:Cp.Dp n l)(d2:n<=X.N)(d3:Cp.wt X.N l<=1300)(hq:X.fns.length<=bl.length)(hs:znn X (X.wk n l (below+names.length+1) ((Cp.Bs.zak X.fns ⟨bl,q.zac,q.code⟩ names).push (.wait b))).blocks)(kl:Kn X (X.fr l) q.zac)(hk:Kn X names q.zac)(hR:znn X bl->b<1000000000/\∀ {h' ws v},ws.length=names.length->(∀ w∈ws,Ad h' w)->Vd X.sl h' v->RB X h' (ws++[.ad v]) b):
  ∃ is,(X.wk n l (below+names.length+1) ((Cp.Bs.zak X.fns ⟨bl,q.zac,q.code⟩ names).push (.wait b))).code=q.code++is/\Wk X q.zac below is:=by
 obtain ⟨i1,e1,r1⟩:=zfF (X:=X) ⟨bl,q.zac,q.code⟩ hk;rw[e1]at hs ⊢;obtain ⟨hx,_⟩:=Cp.zbC (M:=1300) X.N X.fns (by omega) n l (below+names.length+1) (Cp.Bs.push ⟨bl,q.zac++List.replicate names.length [],q.code++i1⟩ (.wait b)) d1 (d1.le d2) d3;obtain ⟨hb,hR⟩:=hR (hs.ext hx);obtain ⟨i2,e2,r2⟩:=ih ⟨d1,d2,d3,hq,hs,by simpa [Cp.Bs.push] using kl.app (List.replicate names.length []++[[]])⟩;refine ⟨i1++([.wait b]++i2),by rw[e2];simp[Cp.Bs.push],fun {A base F0 κ B} hκ r hK hB=>zb3 ((r1 r).mono fun A1 ⟨ws,v1,v2,v3⟩=>zb3 (ri1 fun _=>?_))⟩;simp only[Ma.step];rw[if_pos (by omega)];refine (zrO (X:=X) (w:=.mk 1 b) v3.zct rfl).mono fun A2 ⟨eh,nx⟩=>?_
 have nj:=v3.trans nx;have hf:=nj.fuel;refine (r2 (A:=A2) (base:=base) (F0:=F0) (κ:=κ++(ws++[.mk 1 b])) (B:=B) (by simp[v1,hκ];omega) ?_ (by rw[<-zzk];exact .wait (hK.up nj.g.gv) hb (fun h' v g hv=>hR v1 (fun w hm=>(v2 w hm).up (zyR (by rw[<-eh];exact zyN _) g.1)) hv)) (nj.g.bz hB)).mono fun A3 ⟨c,f⟩=>⟨c,by omega⟩
 have:=r.next nj ((FO.none A2.h v1).app (FO.none (ws:=[.mk 1 b]) _ (k:=1) rfl));simpa [Cp.Bs.push] using this
variable {X:Cx} {h h':List Nd} {A A':Ma} {base F ws:List Wd} {zac more names:List Nm} {q:Cp.Bs} {n below:Nat} {e:Th.Ex} {S:List Wd} {B:List Nat}
theorem zp8(hX:X.cd.length<=1000000)(ih:zq8 X n)(hw:Wq X (n+1) e below q)(hk:e.kind=6):∃ is,(X.wk (n+1) e below q).code=q.code++is/\Wk X q.zac below is:=by
 obtain ⟨h1,h2,h3,h4,h5,h6⟩:=hw;have dD:=h1.le h2;obtain ⟨l,r,a7⟩:=h1.zea.k5 (.inr hk);have he:X.wk (n+1) e below q=_:=Cp.zh3 X.fns n below q hk a7;have dl:=h1.2 l (by simp[a7]);have dr:=h1.2 r (by simp[a7]);have wl:=dD.zgZ (k:=l) (by simp[a7]);have wr:=dD.zgZ (k:=r) (by simp[a7]);have ak:=dD.free;rw[a7]at ak;simp[hk]at ak;have kl:Kn X (X.fr l) q.zac:=h6.sub (fun x hx=>by show x∈Cp.free X.N e;rw[ak];exact Cp.zaw.2 (.inl hx));have kr:Kn X (X.fr r) q.zac:=h6.sub (fun x hx=>by show x∈Cp.free X.N e;rw[ak];exact Cp.zaw.2 (.inr hx));obtain ⟨names,bu⟩:∃ names,names=Cp.zai q.zac (X.fr r):=⟨_,rfl⟩;rw[<-bu]at he;obtain ⟨yj,_⟩:=Cp.zbC (M:=1300) X.N X.fns (by omega) n r 2 (Cp.zbo q names e) dr (dr.le (by omega)) (by omega);rw[he]at h5 ⊢;have bC:X.fns.length<=(Cp.zbo q names e).blocks.length:=by simp[Cp.zbo];omega
 refine zoU ih dl (by omega) (by omega) (by have:=zf6 yj bC;simp;omega) h5 kl (kr.sub fun x hx=>by rw[bu]at hx;exact (Cp.zbK.1 hx).1) (fun hs=>?_);have hb:=hs _ _ (zf6 yj bC) (zg0 _ _);have cV:=(zyL.1 hb).1;have aw:X.cd[q.blocks.length]?=some (2,[.comp ⟨e.tok.s.toArray⟩,.enter]):=(hs.pre.ext yj) _ _ h4 (zg0 _ _);refine ⟨by omega,fun {h' ws v} hl hw hv=>⟨_,by rw[zyT,hl];exact hb,.inr (.inl ⟨ws,v,n,r,Cp.zbo q names e,q.blocks.length,e.tok.s,names.reverse,rfl,hv,hw,⟨dr,by omega,by omega,bC,hs.pre,?_⟩,by simp[Cp.zbo,hl],by simp[hl],by simp[Cp.zbo],rfl,aw,dD.zea.k6 hk⟩)⟩⟩;exact kr.held (out:=[]) (fun x hx _=>hx) (by simp) (by simp) (fun x hx=>by rw[<-bu]at hx;simp[Cp.zbo,hx])
theorem zsy(hn:n<=X.N)(ev:names.length<=1300):∀ (az:List (Nat × List Th.Tok)) (ds:List Th.Ex) (b:Cp.Bs) (l:List (Nat × Nat × Nat)),X.fns.length<=b.blocks.length->(∀ a∈az,a.2.length<=1300)->(∀ d∈ds,Cp.Dp n d/\Cp.wt X.N d<=1300) ->
  (∀ (i:Nat) (a:Nat × List Th.Tok) (d:Th.Ex),az[i]?=some a->ds[i]?=some d->Kn X (X.fr d) (Th.texts a.2++names).reverse)->znn X (Cp.armsOf (X.wk n) names az ds b l).1.blocks->∀ o∈(Cp.armsOf (X.wk n) names az ds b l).2,o∈l\/CB X o.2.2 (names.length+o.2.1)
 |[],ds,b,l,_,_,_,_,_,o,ho=>.inl (by simpa [Cp.armsOf] using ho)
 |a::az,[],b,l,_,_,_,_,_,o,ho=>.inl (by simpa [Cp.armsOf] using ho)
 |a::az,d::ds,b,l,hq,hA,hD,hk,hs,o,ho=>by
  rw[Cp.armsOf]at hs ho;obtain ⟨g1,g2⟩:=hD d (by simp);have aU:=hA a (by simp);have hx:=Cp.zbC (M:=1300) X.N X.fns (by omega) n;obtain ⟨hw,_⟩:=hx d 0 ⟨b.blocks,(Th.texts a.2++names).reverse,[]⟩ g1 (g1.le hn) g2;have hlen:(Th.texts a.2++names).reverse.length=names.length+a.2.length:=by simp[Th.texts]
  have nO:=zf6 hw hq;have hex:=Cp.ziO (M:=1300) (N:=X.N) (by omega) hx (Cp.zaK 1300 X.N X.fns n) names (by omega) az ds (b.zhD (Th.texts a.2++names).reverse (X.wk n d 0)).1 (l++[(a.1,a.2.length,(b.zhD (Th.texts a.2++names).reverse (X.wk n d 0)).2)]) (fun a' xg=>by have:=hA a' (by simp[xg]);omega) (fun d' iH=>by
   obtain ⟨k1,k2⟩:=hD d' (by simp[iH]);exact ⟨k1,k1.le hn,k2⟩)
  have mT:=hs.ext hex;rcases zsy hn ev az ds _ _ (by show X.fns.length<=(_++[_]).length;rw[zyT];exact zyR nO (zz0 _ _)) (fun a' xg=>hA a' (by simp[xg])) (fun d' iH=>hD d' (by simp[iH])) (fun i a' d' e1 e2=>hk (i+1) a' d' (by simpa using e1) (by simpa using e2)) hs o ho with ho|ho
  ·rcases zzi.1 ho with ho|ho
   ·exact .inl ho
   ·rw[zze.1 ho];have:=zqk g1 hn g2 hq mT (hk 0 a d rfl rfl) (by omega);rw[hlen]at this;exact .inr this
  ·exact .inr ho
theorem zkq(hX:X.cd.length<=1000000)(ih:zq8 X n)(hw:Wq X (n+1) e below q)(hk:e.kind=9):∃ is,(X.wk (n+1) e below q).code=q.code++is/\Wk X q.zac below is:=by
 obtain ⟨h1,h2,h3,h4,h5,h6⟩:=hw;have dD:=h1.le h2;obtain ⟨_,s,ds,a7,rY⟩:=h1.zea.k9 hk;obtain ⟨names,bu⟩:∃ names,names=Cp.zai q.zac (Cp.zas X.fr e.zao ds []):=⟨_,rfl⟩;obtain ⟨ao,mJ⟩:∃ ao,ao=Cp.armsOf (X.wk n) names e.zao ds ⟨q.blocks,([]::names).reverse,[]⟩ []:=⟨_,rfl⟩;have he:X.wk (n+1) e below q=_:=Cp.zfk X.fns n below q hk a7 bu mJ;have DF:=h1.2 s (by simp[a7]);have po:=dD.zgZ (k:=s) (by simp[a7]);have ak:=dD.free;rw[a7]at ak;simp[hk]at ak;have ks:Kn X (X.fr s) q.zac:=h6.sub (fun x hx=>by show x∈Cp.free X.N e;rw[ak];exact Cp.zaw.2 (.inl hx));have ka:Kn X (Cp.zas X.fr e.zao ds []) q.zac:=h6.sub (fun x hx=>by show x∈Cp.free X.N e;rw[ak];exact Cp.zaw.2 (.inr hx));have dj:=dD.wt;rw[a7]at dj;simp only[zza,zzd]at dj;have aU:=Cp.zbN X.fr (Cp.wt X.N) (Cp.zaZ X.N) e.zao ds [];have rN:=Cp.zbg q.zac (Cp.zas X.fr e.zao ds []);rw[<-bu]at rN;simp only[zzm,zzG]at aU;have hx:=Cp.zbC (M:=1300) X.N X.fns (by omega) n;have hc:=Cp.zaK 1300 X.N X.fns n;have dQ:∀ x∈ds,Cp.Dp n x/\Cp.wt X.N x<=1300:=fun x hx=>⟨h1.2 x (by simp[a7,hx]),by have:=dD.zgZ (k:=x) (by simp[a7,hx]);omega⟩
 have nR:∀ x∈ds,Cp.Dp n x/\Cp.Dp X.N x/\Cp.wt X.N x<=1300:=fun x hx=>⟨(dQ x hx).1,(dQ x hx).1.le (by omega),(dQ x hx).2⟩
 have pQ:∀ a∈e.zao,a.2.length<=1300:=fun a ha=>by have:=Cp.zsw dD a ha;omega
 have xu:=Cp.ziO (M:=1300) (N:=X.N) (by omega) hx hc names (by omega) e.zao ds ⟨q.blocks,([]::names).reverse,[]⟩ [] (fun a ha=>by have:=pQ a ha;omega) nR;have Aj:=(Cp.zeH hc names e.zao ds ⟨q.blocks,([]::names).reverse,[]⟩ [] (fun x hx=>(nR x hx).2)).2.2;have jl:=zsy (X:=X) (n:=n) (names:=names) (by omega) (by omega) e.zao ds ⟨q.blocks,([]::names).reverse,[]⟩ [] h4 pQ dQ (fun i a d ha hd=>ka.held (out:=Th.texts a.2) (fun x hx fT=>Cp.zcL.2 (.inr ⟨i,a,d,ha,hd,hx,fT⟩)) (fun x hx=>zfD (dD.zea.am a (zy1 ha)).2 hx) (fun x hx=>by simp[hx]) (fun x hx=>by rw[<-bu]at hx;simp[hx]));rw[<-mJ]at xu Aj jl;rw[he]at h5 ⊢;refine zoU ih DF (by omega) (by omega) (by have:=zf6 xu h4;simp;omega) h5 ks (ka.sub fun x hx=>by rw[bu]at hx;exact (Cp.zbK.1 hx).1) (fun hs=>?_);have hb:=hs _ _ (zf6 xu h4) (zg0 _ _);have cV:=(zyL.1 hb).1;rw[Aj]at hb;exact ⟨by omega,fun {h' ws v} hl hw hv=>⟨_,by rw[zyT,hl];exact hb,.inr (.inr (.inr ⟨ws,v,ao.2,rfl,hv,hw,rfl,fun o ho=>by
  rcases jl hs.pre o ho with ho|ho
  ·simp at ho
  ·rw[hl];exact ho⟩))⟩⟩
theorem zuQ(hw:Wq X (n+1) e below q)(hk:e.kind=7\/e.kind=8)(hb:below≠0):∃ is,(X.wk (n+1) e below q).code=q.code++is/\Wk X q.zac below is:=by
 obtain ⟨h1,h2,h3,h4,h5,h6⟩:=hw;obtain ⟨names,bu⟩:∃ names,names=Cp.zai q.zac (X.fr e):=⟨_,rfl⟩;have he:X.wk (n+1) e below q=Cp.Bs.ends ⟨(X.wk (n+1) e 0 ⟨q.blocks,names.reverse,[]⟩).blocks++[(names.reverse.length,(X.wk (n+1) e 0 ⟨q.blocks,names.reverse,[]⟩).code)],(q.zak X.fns names).zac,(q.zak X.fns names).code⟩ (below+names.length) (.jump (X.wk (n+1) e 0 ⟨q.blocks,names.reverse,[]⟩).blocks.length):=by
  show Cp.work _ _ _ _ _ _=_;rw[Cx.wk,Cp.zhC hk];rw[Cp.work,if_neg (by omega),if_neg (by omega),if_neg (by omega),if_pos hk,if_neg hb];simp only[Cp.Bs.zhD];rw[zex,<-bu]
 rw[he]at h5 ⊢;have hlen:=zyR (Cp.zbg q.zac (X.fr e)) (Cp.zaZ X.N e);rw[<-bu]at hlen;have jl:=zqk (X:=X) (sl:=names.reverse) (bl:=q.blocks) h1 h2 h3 h4 h5 (h6.held (out:=[]) (fun x hx _=>hx) (by simp) (by simp) (fun x hx=>by rw[<-bu]at hx;simp[hx])) (by simp;omega);generalize X.wk (n+1) e 0 ⟨q.blocks,names.reverse,[]⟩=R at *;obtain ⟨i1,e1,r1⟩:=zfF (X:=X) q (l:=names) (h6.sub fun x hx=>by rw[bu]at hx;exact (Cp.zbK.1 hx).1);refine ⟨i1++([.zci (below+names.length)]++[.jump R.blocks.length]),by simp[Cp.Bs.ends,Cp.Bs.write,e1],fun {A base F0 κ B} hκ r hK hB=>zb3 ((r1 r).mono fun A1 ⟨ws,w1,w2,w3⟩=>zb3 ?_)⟩;refine (zwY (X:=X) (base:=base) (F:=F0) (T:=κ++ws) (by rw[w3.st,r.st];simp) (w3.below.trans r.below) (by simp[hκ,w1])).mono fun A2 e2=>ri1 fun h0=>?_
 have hf:=w3.fuel;rw[e2]at h0 ⊢;refine .done ⟨⟨w3.zct,base++κ,B,ws,by simp,hK.up w3.g.gv,w3.g.bz hB,.inl ⟨R.blocks.length,rfl,(X.sys.cb _ _ jl).2.2 _ _ (by simp[w1]) w2⟩⟩,?_⟩;simp only at h0 ⊢;omega
theorem znf(hX:X.cd.length<=1000000)(ih:zq8 X n)(hw:Wq X (n+1) e 0 q)(hk:e.kind=7\/e.kind=8):∃ is,(X.wk (n+1) e 0 q).code=q.code++is/\Wk X q.zac 0 is:=by
 obtain ⟨h1,h2,h3,h4,h5,h6⟩:=hw;have dD:=h1.le h2;obtain ⟨aH,b,ps,a7,gK⟩:=h1.zea.k7 hk;have he:X.wk (n+1) e 0 q=X.wk n b 0 (Cp.zdq (X.wk n) X.fr X.fns e ps q):=by
  rw[Cx.wk,Cp.zhC hk,Cp.zei a7]
 rw[he]at h5 ⊢;have ak:=dD.free;rw[a7]at ak;have hx:=Cp.zbC (M:=1300) X.N X.fns (by omega) n;have hc:=Cp.zaK 1300 X.N X.fns n;have dQ:∀ x∈ps,Cp.Dp n x/\Cp.Dp X.N x/\Cp.wt X.N x<=1300:=fun x hx=>⟨h1.2 x (by simp[a7,hx]),dD.kid (by simp[a7,hx]),by have:=dD.zgZ (k:=x) (by simp[a7,hx]);omega⟩
 have uF:=dD.zgZ (k:=b) (by simp[a7]);have dq:=h1.2 b (by simp[a7]);have Eo:=Cp.znP (M:=1300) (N:=X.N) (by omega) hx hc X.fns (e:=e) (ps:=ps) q dQ;have aK:=(Cp.zdU hc X.fns a7 gK q dD h3).2.1;obtain ⟨tF,_⟩:=hx b 0 (Cp.zdq (X.wk n) X.fr X.fns e ps q) dq (dq.le (by omega)) (by omega);have mT:=h5.ext tF;have iZ:∀ y∈Th.texts e.names,y≠[]:=fun y hy=>zfD dD.zea.nm hy
 have cu:=Cp.zcs e.names;have Ar:∀ l:List Nm,(∀ y∈l,y ∉ Th.texts e.names->y∈X.fr e)->Kn X l (q.zac++Th.texts e.names):=fun l hl y hy=>by
  by_cases pq:y∈Th.texts e.names
  ·exact ⟨iZ y pq,.inl (by simp[pq])⟩
  ·exact ((h6.sub fun z hz=>by rw[zze.1 hz];exact hl y hy pq).app (Th.texts e.names)) y (List.mem_singleton_self y)
 obtain ⟨i2,e2,r2⟩:=ih (e:=b) (below:=0) (q:=Cp.zdq (X.wk n) X.fr X.fns e ps q) ⟨dq,by omega,by omega,zf6 Eo h4,h5,by
  rw[aK];refine Ar _ fun y hy pq=>?_
  show y∈Cp.free X.N e;rw[ak];rcases hk with hk|hk <;> simp[hk] <;> exact Cp.zaw.2 (.inr (Cp.zaN.2 ⟨hy,pq⟩))⟩
 rw[aK]at r2;have uE:∃ i1,(Cp.zdq (X.wk n) X.fr X.fns e ps q).code=q.code++i1/\∀ {A base F},Ru X A q.zac base F->Ok (X.ri i1 A) (zw4 X A ps.length):=by
  unfold Cp.zdq at mT ⊢;by_cases h8:e.kind=8
  ·rw[if_pos h8]at mT ⊢;obtain ⟨i1,nms,m1,m2,m3,m4,m5,m6⟩:=ziP hX h2 ps { q with zac:=q.zac++Th.texts e.names } [] h4 (fun x hx=>⟨(dQ x hx).1,(dQ x hx).2.2,Ar _ fun y hy pq=>by
    show y∈Cp.free X.N e;rw[ak];simp[h8];exact Cp.zaw.2 (.inl (Cp.zaN.2 ⟨Cp.zbh.2 (.inr ⟨x,hx,hy⟩),pq⟩))⟩) (mT.ext (Cp.zmh X.fns _ _ _))
   simp only;obtain ⟨i3,f1,f2⟩:=zqv (X:=X) nms q.zac.length (Cp.makeAll (X.wk n) X.fr ps { q with zac:=q.zac++Th.texts e.names } []).1 (by rw[m2];exact m5);rw[m3,zzb,f1,m1];refine ⟨i1++i3,by simp,fun {A base F} r=>zb3 ((m6 r.zct).mono fun A1 ⟨ws,w1,w2⟩=>?_)⟩;obtain ⟨l1,l2⟩:=w1.len;rw[m2]at f2;refine (f2 (r.next w2 (FO.all (by omega) l2)) r.fo.1 w1).mono fun A2 k=>⟨ws,by omega,fun w hw=>(l2 w hw).up k.g.len,?_⟩
   have:=w2.trans k
   rwa [zzS]at this
  ·rw[if_neg h8]at mT ⊢;have h7:e.kind=7:=by omega
   exact zjk hX h2 ps q h4 (fun x hx=>⟨(dQ x hx).1,(dQ x hx).2.2,h6.sub fun y hy=>by
    show y∈Cp.free X.N e;rw[ak];simp[h7];exact Cp.zaw.2 (.inl (Cp.zbh.2 (.inr ⟨x,hx,hy⟩)))⟩) mT
 obtain ⟨i1,e1,r1⟩:=uE;refine ⟨i1++i2,by rw[e2,e1,zzk],fun {A base F0 κ B} hκ r hK hB=>zb3 ((r1 r).mono fun A1 ⟨ws,w1,w2,w3⟩=>?_)⟩;have hκ0:=zzn.1 hκ;subst hκ0;have hf:=w3.fuel;refine (r2 (A:=A1) (base:=base) (F0:=F0++ws) (κ:=[]) (B:=B) rfl ?_ (hK.up w3.g.gv) (w3.g.bz hB)).mono fun A2 ⟨c,f⟩=>⟨c,by omega⟩
 have:=r.next w3 (FO.all (zac:=Th.texts e.names) (by omega) w2);simpa using this
theorem zq1(hX:X.cd.length<=1000000)(n:Nat):zq8 X n:=by
 induction n with
 |zero=>exact fun hw=>hw.1.elim
 |succ n ih=>
  intro e below q hw;have hd:=hw.1;have fN:=hd.zea.lo;have gS:=hd.zea.hi;by_cases h4:e.kind<=4
  ·exact zd8 hX hw h4
  ·by_cases h5:e.kind=5
   ·exact zkp hX ih hw h5
   ·by_cases h6:e.kind=6
    ·exact zp8 hX ih hw h6
    ·by_cases h9:e.kind=9
     ·exact zkq hX ih hw h9
     ·by_cases hb:below=0
      ·subst hb;exact znf hX ih hw (by omega)
      ·exact zuQ hw (by omega) hb
end Sf
end Go.Proofs.YtgahgkddaljmkaaGreatDoor
namespace Go.Proofs.YtgahgkddaljmkaaGreatDoor
open Tryz
namespace Ab
abbrev zsp:=Int × Int × Int × Int
def Sure (f:Nat->Option zsp) (r:zsp):Prop:=∃ c,∀ g,f (g+c)=some r
end Ab
namespace Sf
open Cp (Nm)
open Ab
variable {X:Cx} {h h':List Nd} {A A':Ma} {F ws:List Wd} {S:List Wd} {B:List Nat}
theorem zjv{d v:Nat}(hd:d<A.st.length)(hs:A.st[A.st.length-1-d]?=some (.ad v))(hv:Vd X.sl A.h v):A.zdW d=some (.error 3)\/∃ x,A.zdW d=some (.ok x):=by
 obtain ⟨nd,n1,n2⟩:=hv;unfold Ma.zdW;rw[if_pos hd,hs];simp only;rw[n1];cases nd with
 |num x=>exact .inr ⟨x,rfl⟩
 |data t fs=>exact .inl rfl
 |clo b fs=>exact .inl rfl
 |busy=>exact n2.elim
 |fwd a=>exact n2.elim
variable {hf:Nat}
theorem zvc{sg:List UInt8}(mU:sg∈Th.six)(l r:Int)(hG:Good X.sys A):Ok (A.calc hf ⟨⟨sg⟩⟩ l r) fun A'=>A'.fuel=A.fuel/\∃ w,Ad A'.h w/\Nx X A A' [w]:=by
 have own:∀ {A':Ma} {nd:Nd},A'={ A with h:=A.h++[nd],st:=A.st++[.ad A.h.length] }->Good X.sys A'->A'.fuel=A.fuel/\∃ w,Ad A'.h w/\Nx X A A' [w]:=fun {A' nd} e hg=>⟨by rw[e],.ad A.h.length,⟨_,rfl,by rw[e];simp⟩,by rw[e],by rw[e],hg,by rw[e];exact G.app nd,by rw[e];exact zyN _⟩
 have hp:∀ v,Ok (A.zau hf v) fun A'=>A'.fuel=A.fuel/\∃ w,Ad A'.h w/\Nx X A A' [w]:=fun v=>zgM (.done (own rfl ⟨hG.1.app trivial,hG.2.1,zyR hG.2.2 (by simp)⟩))
 have ht:∀ b,Ok (A.zww hf b) fun A'=>A'.fuel=A.fuel/\∃ w,Ad A'.h w/\Nx X A A' [w]:=fun b=>(zmv (X:=X) (nd:=fun _=>.data (if b then 2 else 1) []) (ws:=[]) (st:=A.st) hG (by simp) rfl (by simp) (fun fs _ _ f hf=>by simp at hf)).mono fun A' ⟨fs,_,e2,e3⟩=>own e2 e3
 simp only[Th.six,zzo,zzZ,or_false]at mU;unfold Ma.calc;rcases mU with rfl|rfl|rfl|rfl|rfl|rfl
 ·rw[if_pos rfl];exact hp _
 ·rw[if_neg (by decide),if_pos rfl];exact hp _
 ·rw[if_neg (by decide),if_neg (by decide),if_pos rfl];exact hp _
 ·rw[if_neg (by decide),if_neg (by decide),if_neg (by decide),if_pos rfl];split
  ·exact .inl ⟨3,rfl⟩
  ·exact hp _
 ·rw[if_neg (by decide),if_neg (by decide),if_neg (by decide),if_neg (by decide),if_pos rfl];exact ht _
 ·rw[if_neg (by decide),if_neg (by decide),if_neg (by decide),if_neg (by decide),if_neg (by decide),if_pos rfl];exact ht _
theorem zlf{hf t v:Nat}{fs:List Nat}{F0:List Wd}(hG:Good X.sys A)(hs:A.st=S++(F0++[.ad v]))(hK:K X.sys A.h S B)(hB:BZ A.h B)(hw:∀ w∈F0,Ad A.h w)(jX:∀ f∈fs,f<A.h.length):∀ (zao:List (Nat × Nat × Nat)),(∀ o∈zao,CB X o.2.2 (F0.length+o.2.1))->Ok (A.zcc hf t fs zao) fun A'=>Cf X.sys A'/\A'.fuel=A.fuel
 |[],_=>.inl ⟨3,rfl⟩
 |(u,c,b)::l,ha=>by
  rw[Ma.zcc];split
  ·split
   ·next hc=>
    refine zgM (.done ⟨⟨hG,S,B,F0++(fs.map Wd.ad).reverse,?_,hK,hB,.inl ⟨b,rfl,(X.sys.cb _ _ (ha (u,c,b) (by simp))).2.2 _ _ (by simp[hc]) fun w hm=>?_⟩⟩,rfl⟩)
    ·simp only;rw[show zcE A.st 1=S++F0 by rw[hs,<-zzk];exact zef (S++F0) [.ad v],zzk]
    ·rcases zzi.1 hm with hm|hm
     ·exact hw w hm
     ·exact zte jX w hm
   ·exact .inl ⟨3,rfl⟩
  ·exact zlf hG hs hK hB hw jX l fun o ho=>ha o (by simp[ho])
variable {b:Nat}
theorem block(hX:X.cd.length<=1000000)(hG:Good X.sys A)(hs:A.st=S++F)(hb:A.below=S.length)(hK:K X.sys A.h S B)(hB:BZ A.h B)(hR:RB X A.h F b):∃ is,X.cd[b]?=some (F.length,is)/\Ok (X.ri is A) fun A'=>Cf X.sys A'/\A'.fuel<A.fuel:=by
 obtain ⟨is,c,hR⟩:=hR;refine ⟨is,c,?_⟩;rcases hR with ⟨hc,hl,hw⟩|⟨F0,v,m,r,q,b2,sg,ns,rfl,hv,hw,hq,q1,q2,q3,rfl,c2,mU⟩|⟨l,r,sg,rfl,hl,hr,rfl,mU⟩|⟨F0,v,zao,rfl,hv,hw,rfl,ha⟩
 ·rcases hc with ⟨m,e,q,hq,q1,q2,rfl⟩|⟨t,ht,rfl⟩
  ·obtain ⟨is,e1,r1⟩:=zq1 hX m hq;rw[e1,q1,zzb];exact r1 (base:=S) (F0:=F) (κ:=[]) rfl ⟨by simp[hs],hb,hG,by simpa using FO.all q2.symm hw⟩ (by simpa using hK) hB
  ·refine zb3 (a:=[_]) (b:=[.enter]) (ri1 fun h0=>?_);simp only[Ma.step,Ma.zn5];rw[if_pos ⟨by omega,hl⟩];refine (zmv (X:=X) (nd:=.data t) (A:={ A with fuel:=A.fuel-1 }) (ws:=F) (st:=S) hG hs rfl hw (fun fs _ h0 f hf=>zyS (h0 f hf) (by simp))).mono fun A1 ⟨fs,_,e2,e3⟩=>?_
   refine (zsW (S:=S) (B:=B) (w:=.ad A.h.length) (by rw[e2]) ⟨_,rfl,by rw[e2];simp⟩ (by rw[e2];exact hK.up (G.app _).gv) (by rw[e2];exact (G.app _).bz hB) e3).mono fun A2 ⟨k,f⟩=>⟨k,?_⟩
   rw[e2]at f;simp only at f;omega
 ·obtain ⟨is,e1,r1⟩:=zq1 hX m hq;have hl:A.st.length=S.length+F0.length+1:=by rw[hs];simp;omega
  have aw:=(zyL.1 c2).1;rw[e1,q1,show [Ins.zbX,.push F0.length,.wait b2]++is=[.zbX]++([.push F0.length]++([.wait b2]++is)) by simp];refine zb3 (ri1 fun h0=>?_);simp only[Ma.step];have hn:=zjv (X:=X) (A:={ A with fuel:=A.fuel-1 }) (d:=0) (v:=v) (by simp only;omega) (by simp only;rw[hl,hs,<-zzk,zy3 (by simp)];simp) hv;rcases hn with hn|⟨x,hn⟩
  ·rw[hn];exact .inl ⟨3,rfl⟩
  ·rw[hn];have r0:Ru X { A with fuel:=A.fuel-1 } (ns++[[]]) S (F0++[.ad v]):=⟨hs,hb,hG,(FO.all q2.symm hw).app (FO.none (ws:=[.ad v]) _ (k:=1) rfl)⟩;refine .done (zb3 (ri1 fun _=>?_));simp only[Ma.step];refine (zrO (X:=X) (A:={ A with fuel:=A.fuel-1 }) (w:=.ad v) hG (r0.slot (i:=F0.length) (by simp))).mono fun A1 ⟨x1,x2⟩=>zb3 (ri1 fun _=>?_)
   simp only[Ma.step];rw[if_pos (by omega)];refine (zrO (X:=X) (w:=.mk 1 b2) x2.zct rfl).mono fun A2 ⟨y1,y2⟩=>?_
   have nx:=x2.trans y2;have hf:=nx.fuel;have aG:K X.sys A2.h (S++([.ad v]++[.mk 1 b2])) B:=.wait (hK.up nx.g.gv) (by omega) (fun h' v' g dZ=>⟨_,c2,.inr (.inr (.inl ⟨v,v',sg,rfl,g.2 v ((nx.g.gv (Y:=X.sys)).2 v hv),dZ,rfl,mU⟩))⟩);refine (r1 (base:=S) (F0:=F0++[.ad v]) (κ:=[.ad v,.mk 1 b2]) rfl ?_ aG (nx.g.bz hB)).mono fun A3 ⟨k,f⟩=>⟨k,by simp only at hf;omega⟩
   have:=r0.next nx (FO.none (ws:=[.ad v,.mk 1 b2]) _ (k:=2) rfl);rw[q3];simpa using this
 ·have xI:A.st.length=S.length+2:=by rw[hs];simp
  refine zb3 (a:=[_]) (b:=[.enter]) (ri1 fun h0=>?_);simp only[Ma.step,Ma.compute];have lq:=zjv (X:=X) (A:={ A with fuel:=A.fuel-1 }) (d:=0) (v:=r) (by simp only;omega) (by simp only;rw[xI,hs,zy3 (by omega),show S.length+2-1-0-S.length=1 by omega];rfl) hr;have cR:=zjv (X:=X) (A:={ A with fuel:=A.fuel-1 }) (d:=1) (v:=l) (by simp only;omega) (by simp only;rw[xI,hs,zy3 (by omega),show S.length+2-1-1-S.length=0 by omega];rfl) hl;rcases lq with hn|⟨x,hn⟩
  ·rw[hn];exact .inl ⟨3,rfl⟩
  ·rw[hn];simp only;rcases cR with cR|⟨y,cR⟩
   ·rw[cR];exact .inl ⟨3,rfl⟩
   ·rw[cR];simp only;rw[show zcE A.st 2=S by rw[hs];exact zef S [.ad l,.ad r]];refine (zvc (X:=X) (A:={ A with fuel:=A.fuel-1,st:=S }) mU y x hG).mono fun A1 ⟨e0,w,w1,w2⟩=>?_
    refine (zsW (S:=S) (B:=B) w2.st w1 (hK.up w2.g.gv) (w2.g.bz hB) w2.zct).mono fun A2 ⟨k,f⟩=>⟨k,?_⟩
    rw[e0]at f;simp only at f;omega
 ·refine ri1 fun h0=>?_
  simp only[Ma.step,Ma.choose];rw[show A.st.getLast?=some (.ad v) by rw[hs];simp];simp only;obtain ⟨nd,n1,n2⟩:=hv;have mR:=hG.1 v nd n1;rw[n1];cases nd with
  |num x=>exact .inl ⟨3,rfl⟩
  |clo b fs=>exact .inl ⟨3,rfl⟩
  |busy=>exact n2.elim
  |fwd a=>exact n2.elim
  |data t fs=>exact (zlf (X:=X) (A:={ A with fuel:=A.fuel-1 }) hG hs hK hB hw mR zao ha).mono fun A2 ⟨k,f⟩=>⟨k,by rw[f];simp only;omega⟩
theorem zo1(hX:X.cd.length<=1000000):∀ (g:Nat) {A:Ma},Cf X.sys A->A.fuel<g->∃ r,(∀ k,Ma.work X.hf X.cd (g+k) A=some r)/\∀ A',r=.ok A'->∃ o,A'.told=some o
 |0,_,_,hg=>by omega
 |g+1,A,⟨hG,S,B,F,hs,hK,hB,hn⟩,hg=>by
  rcases hn with ⟨b,hn,hR⟩|⟨hn,v,rfl,nd,n1,n2⟩
  ·obtain ⟨is,c,hb⟩:=block hX (A:={ A with below:=(A.st.length:Int)-F.length }) (S:=S) (B:=B) hG hs (by simp only;rw[hs];simp) hK hB hR;have hw:∀ k r,X.ri is { A with below:=(A.st.length:Int)-F.length }=some r->Ma.work X.hf X.cd (g+1+k) A=(match r with|.error j=>some (.error j)|.ok A2=>Ma.work X.hf X.cd (g+k) A2):=fun k r hr=>by
    rw[show g+1+k=g+k+1 by omega,Ma.work,if_neg (by omega),if_neg (by omega),show A.next.toNat=b by rw[hn];rfl,c];simp only;rw[show Ma.zbb X.hf X.sl is { A with below:=(A.st.length:Int)-F.length }=some r from hr];cases r <;> rfl
   rcases hb with ⟨j,e⟩|⟨A2,e,hc,hf⟩
   ·exact ⟨.error j,fun k=>hw k _ e,fun _ e=>by cases e⟩
   ·obtain ⟨r,r1,r2⟩:=zo1 hX g hc (by simp only at hf;omega);exact ⟨r,fun k=>(hw k _ e).trans (r1 k),r2⟩
  ·refine ⟨.ok A,fun k=>by rw[show g+1+k=g+k+1 by omega,Ma.work,if_pos hn];rfl,fun A' e=>?_⟩;cases e;unfold Ma.told;rw[show A.st.getLast?=some (.ad v) by rw[hs];simp];simp only;rw[n1];cases nd with
   |num x=>exact ⟨_,rfl⟩
   |data t fs=>exact ⟨_,rfl⟩
   |clo b fs=>exact ⟨_,rfl⟩
   |busy=>exact n2.elim
   |fwd a=>exact n2.elim
theorem zqE(hN:X.N=1300):∀ (l:List Th.zbr) (i:Nat) (bl:List (Nat × List Ins)),i+l.length=X.fns.length->X.fns.length<=bl.length->Cp.lines X.fr X.fns X.N i l bl=X.cd ->
  (∀ f∈l,Cp.Dp X.N f.e/\Cp.wt X.N f.e+f.params.length<=1300/\Kn X (X.fr f.e) (Th.texts f.params).reverse) ->
  (∀ (j:Nat) (b:Nat × List Ins),(j<i\/i+l.length<=j)->bl[j]?=some b->X.cd[j]?=some b)/\(∀ j,j<l.length->∃ k,CB X (i+j) k)/\X.cd.length<=bl.length+8*(l.map fun f=>Cp.wt X.N f.e).sum
 |[],i,bl,_,_,h,_=>by
  rw[Cp.lines]at h;rw[h];exact ⟨fun _ _ _ hb=>hb,by simp,by simp⟩
 |f::l,i,bl,hi,hb,h,hf=>by
  obtain ⟨f1,f2,f3⟩:=hf f (by simp);rw[zy8]at hi;rw[Cp.lines]at h;obtain ⟨sl,aK⟩:∃ sl:List Nm,sl=(Th.texts f.params).reverse:=⟨_,rfl⟩;have s8:sl.length=f.params.length:=by rw[aK];simp[Th.texts]
  rw[<-aK]at h f3;obtain ⟨⟨⟨more,e1,g1⟩,_⟩,_⟩:=Cp.zbC (M:=1300) X.N X.fns (by omega) X.N f.e 0 ⟨bl,sl,[]⟩ f1 f1 (by omega);have aX:=(Cp.zaK 1300 X.N X.fns X.N f.e 0 ⟨bl,sl,[]⟩ f1 (by omega)).2.2;obtain ⟨q,hq⟩:∃ q,q=X.wk X.N f.e 0 ⟨bl,sl,[]⟩:=⟨_,rfl⟩;rw[show Cp.work X.fr X.fns X.N f.e 0 ⟨bl,sl,[]⟩=q from hq.symm]at h e1 aX;simp only at e1 aX;have p7:bl.length<=q.blocks.length:=by rw[e1];simp
  obtain ⟨r1,r2,r3⟩:=zqE hN l (i+1) (q.blocks.set i (sl.length,q.code)) (by omega) (by rw[zy6];omega) h (fun x hx=>hf x (by simp[hx]));have pg:znn X q.blocks:=fun j b hj pR=>r1 j b (by omega) (by rw[zyV,if_neg (by omega)];exact pR)
  refine ⟨fun j b hj pR=>r1 j b (by rw[zy8]at hj;omega) ?_,fun j hj=>?_,?_⟩
  ·rw[zyV,if_neg (by rw[zy8]at hj;omega),e1,zzc (zyL.1 pR).1];exact pR
  ·cases j with
   |zero=>exact ⟨sl.length,by omega,q.code,r1 i _ (by omega) (by rw[zyV,if_pos rfl,if_pos (by omega)]),.inl ⟨X.N,f.e,⟨bl,sl,[]⟩,⟨f1,zyN _,by omega,hb,by rw[<-hq];exact pg,f3⟩,rfl,rfl,by rw[hq]⟩⟩
   |succ j=>
    have:=r2 j (by simpa using hj)
    rwa [show i+(j+1)=i+1+j by omega]
  ·rw[zy6]at r3;rw[zza,zzd];omega
theorem zto{hf:Nat}(hX:X.fns.length<=1000000):∀ (m i:Nat) {A:Ma},i+m=X.fns.length->(∀ j,j<X.fns.length->∃ k,CB X j k)->HT X.sys A.h->A.h.length=i->A.fns=List.range i->A.st=[]->Ok (A.zbm hf i m) fun A'=>Good X.sys A'/\A'.st=[]/\A'.h.length=X.fns.length/\A'.fuel=A.fuel
 |0,i,A,hi,_,ht,hl,hn,hs=>.done ⟨⟨ht,by rw[hn];show _=List.range X.fns.length;rw[<-hi];rfl,by show X.fns.length<=_;omega⟩,hs,by omega,rfl⟩
 |m+1,i,A,hi,hc,ht,hl,hn,hs=>by
  obtain ⟨k,hk⟩:=hc i (by omega);rw[Ma.zbm];split
  ·refine zgM (zto hX m (i+1) (A:={ A with h:=A.h++[.clo i []],fns:=A.fns++[A.h.length] }) (by omega) hc (ht.app ⟨by simp,k,by simp,hk⟩) (by simp[hl]) ?_ hs);simp only;rw[hn,hl,List.range_succ]
  ·next h0=>exact absurd (by omega) h0
theorem zjK{l:List Th.zbr}(ho:Th.zyf 1300 l)(hf fuel:Nat):∃ r,Sure (zwX hf (Cp.program 1300 l) l.length ((Th.zaq l).idxOf Th.zcO) fuel) r:=by
 obtain ⟨X,hX⟩:∃ X:Cx,X=⟨hf,Cp.program 1300 l,Th.zaq l,1300⟩:=⟨_,rfl⟩;have DZ:X.cd=Cp.program 1300 l:=by rw[hX]
 have xf:X.fns=Th.zaq l:=by rw[hX]
 have uD:X.N=1300:=by rw[hX]
 have D0:X.hf=hf:=by rw[hX]
 have bZ:X.fns.length=l.length:=by rw[xf];simp[Th.zaq]
 have s9:∀ (l:List Th.zbr),l.length+(l.map fun f=>Cp.wt 1300 f.e).sum<=(l.map fun f=>Cp.wt 1300 f.e+f.params.length+1).sum:=by
  intro l
  induction l with
  |nil=>simp
  |cons x l ih=>rw[zza,zzd,zza,zzd,zy8];omega
 have dh:=zyR (s9 l) ho.sum;obtain ⟨_,c2,c3⟩:=zqE uD l 0 (List.replicate l.length (0,[])) (by omega) (by simp;omega) (by rw[hX];rfl) (fun f hm=>by
  have:=ho.each hm;rw[uD];refine ⟨ho.dp f hm,by omega,fun x hx=>?_⟩;obtain ⟨x1,x2⟩:=ho.nm f hm x (by have ij:x∈Cp.free X.N f.e:=hx;rw[uD]at ij;exact ij);exact ⟨x1,x2.imp (fun k=>by simpa using k) (fun k=>by rw[xf];exact k)⟩)
 rw[uD]at c3;simp only[zzz]at c3;have rV:X.cd.length<=1000000:=by omega
 have cL:(Th.zaq l).idxOf Th.zcO<X.fns.length:=by rw[xf];exact zzF ho.main
 rw[<-DZ,<-D0,<-bZ];unfold zwX;have dH:=zto (X:=X) (hf:=X.hf) (by omega) X.fns.length 0 (A:=Ma.new fuel) (by omega) (fun j hj=>by have:=c2 j (by omega);rwa [zzG]at this) (fun a nd e=>by simp[Ma.new]at e) rfl rfl rfl;have dY:Ok ((Ma.new fuel).start X.hf (X.cd.map Prod.fst) X.fns.length ((Th.zaq l).idxOf Th.zcO)) fun A'=>Cf X.sys A':=by
  unfold Ma.start;rcases dH with ⟨j,e⟩|⟨A1,e,hg,hs,hl,_⟩
  ·rw[e];exact .inl ⟨j,rfl⟩
  ·rw[e];simp only;refine zgM ?_;rw[show A1.fns[(Th.zaq l).idxOf Th.zcO]?=some ((Th.zaq l).idxOf Th.zcO) by rw[hg.2.1];exact List.getElem?_range cL];simp only;exact (enter (Y:=X.sys) (S:=[]) (B:=[]) (A:={ A1 with st:=A1.st++[.ad ((Th.zaq l).idxOf Th.zcO)] }) (by rw[hs]) (by simp only;omega) .nil ⟨by simp,by simp⟩ hg).mono fun A' k=>k.1
 rcases dY with ⟨j,e⟩|⟨A1,e,hc⟩
 ·exact ⟨((j:Int),0,0,0),0,fun g=>by rw[e]⟩
 ·obtain ⟨r,r1,r2⟩:=zo1 rV (A1.fuel+1) hc (by omega);cases r with
  |error j=>exact ⟨((j:Int),0,0,0),A1.fuel+1,fun g=>by rw[e,Nat.add_comm];simp only;rw[r1]⟩
  |ok A2=>
   obtain ⟨o,ho⟩:=r2 A2 rfl;exact ⟨o,A1.fuel+1,fun g=>by rw[e,Nat.add_comm];simp only;rw[r1];exact ho⟩
end Sf
end Go.Proofs.YtgahgkddaljmkaaGreatDoor
namespace Go.Proofs.YtgahgkddaljmkaaGreatDoor
open Tryz
namespace Ab
variable {sl:List Nat} {hf:Nat} {m:MSt} {A:Ma} {φ:Nat->Option Nat}
abbrev VI (sl:List Nat) (h:List Nd):Prop:=∀ (a b:Nat),h[a]?=some (.fwd b)->∃ nd,h[b]?=some nd/\val sl nd
variable {h:List Nd}{nd:Nd}
theorem zoT(hv:VI sl h)(hf:zaV nd=false):VI sl (h++[nd]):=by
 intro a b hb;rw[zzj]at hb;split at hb
 ·obtain ⟨n,h1,h2⟩:=hv a b hb;exact ⟨n,by rw[zzc (zyL.1 h1).1];exact h1,h2⟩
 ·next nO=>
  have:=(zyL.1 hb).1;simp at this;have h1:a-h.length=0:=by omega
  rw[h1]at hb;simp at hb;rw[hb]at hf;simp[zaV]at hf
theorem zb2(M:MR sl hf m A φ)(v:Int):zaS sl hf (m.zau v) (A.zau hf v):=by
 refine zcS M (fun m' φ' M' hr _=>?_);obtain ⟨n1,n2⟩:=zmy M'.rel (nd:=.num v) (xs:=[v]) trivial rfl (by simp[sz];omega) (by simp[sz]) (fun w hw=>by cases hw;rfl) (fun i f hf=>by simp[zdd]at hf);obtain ⟨p1,p2⟩:=zc5 n2 (x:=m'.s.free) (w:=.ad A.h.length) (by simp[sz];omega) ⟨m'.s.free,rfl,.inl (by simp[grow])⟩;have hd:hdr (.num v)=0:=rfl;rw[hd]at n1 p1;unfold MSt.put;rw[n1];simp only[zzD];rw[p1];exact zaS.ok ⟨p2,M'.half,M'.fuel,M'.next,M'.below,zoT M'.vi rfl⟩
variable {c:Nat}
theorem zi6(M:MR sl hf m A φ){nd:List Nat->Nd}{hd:Int}(hh:∀ fs,fs.length=c->hdr (nd fs)=hd/\zo6 (nd fs)/\zaV (nd fs)=false/\sz (nd fs)=c+1/\(∀ v,nd fs≠.num v)/\∀ (i f:Nat),(zdd (nd fs))[i]?=some f->fs[i]?=some f):zaS sl hf (m.build hd c) (A.mkN hf nd c):=by
 refine zcS M (fun m' φ' M' hr _=>?_);cases ht:zlT A.st c with
 |none=>exact zaS.none _ _ _
 |some fs=>
  obtain ⟨t1,t2,t3⟩:=ziX ht;obtain ⟨e1,e2,e3,e4,e5,e6⟩:=hh fs t2;obtain ⟨w1,w2⟩:=M'.rel.zlT ht;have fg:=M'.rel.tp;have gS:=M'.rel.hi;obtain ⟨n1,n2⟩:=zmy M'.rel (nd:=nd fs) (xs:=m'.s.words m'.s.top c) e2 e3 (by omega) (by rw[w1,e4]) (fun v hv=>absurd hv (e5 v)) (fun i f dr=>by
   obtain ⟨x,x1,x2⟩:=w2 i f (e6 i f dr);exact ⟨x,x1,x2.mono (M'.rel.grown _) zhE⟩)
  obtain ⟨q1,q2⟩:=zhQ n2 (c:=c) t1;obtain ⟨p1,p2⟩:=zc5 q2 (x:=m'.s.free) (w:=.ad A.h.length) (by simp only;omega) ⟨m'.s.free,rfl,.inl (by simp[grow])⟩;rw[e1]at n1;simp only;rw[if_pos ⟨by omega,by omega⟩];unfold MSt.put;rw[n1];simp only[zzD];rw[e1]at q1 p1;rw[q1];simp only[zzD];rw[p1];rw[e1]at p2;exact zaS.ok ⟨p2,M'.half,M'.fuel,M'.next,M'.below,zoT M'.vi e3⟩
theorem ztM(M:MR sl hf m A φ)(t c:Nat):zaS sl hf (m.pack 1 t c) (A.zn5 hf t c):=by
 unfold MSt.pack Ma.zn5;split
 ·next hc=>exact zi6 M (fun fs hl=>⟨by simp[hdr,hl],⟨hc.1,by omega⟩,rfl,by simp[sz,hl];omega,by simp,fun i f hf=>hf⟩)
 ·exact zaS.none _ _ _
theorem ztL(M:MR sl hf m A φ)(t c:Nat):zaS sl hf (m.pack 2 t c) (A.zpH hf t c):=by
 unfold MSt.pack Ma.zpH;split
 ·next hc=>exact zi6 M (fun fs hl=>⟨by simp[hdr,hl],⟨hc.1,by omega⟩,rfl,by simp[sz,hl];omega,by simp,fun i f hf=>hf⟩)
 ·exact zaS.none _ _ _
theorem zoP(M:MR sl hf m A φ)(b:Bool):zaS sl hf (m.zcN b) (A.zww hf b):=by
 refine zi6 M (fun fs hl=>⟨?_,?_,rfl,by simp[sz],by simp,fun i f hf=>by simp[zdd]at hf⟩)
 ·cases b <;> rfl
 ·cases b <;> exact ⟨by decide,by decide⟩
theorem zqu{x:Int}:∀ (c:Nat) (s:Sto),s.free+c<=s.ws.length->∃ ws',s.fill x c=some { s with ws:=ws',free:=s.free+c }/\ws'.length=s.ws.length/\∀ j,ws'[j]?=if s.free<=j/\j<s.free+c then some x else s.ws[j]?
 |0,s,_=>⟨s.ws,rfl,rfl,fun j=>by rw[if_neg (by omega)]⟩
 |c+1,s,h=>by
  obtain ⟨ws',h1,h2,h3⟩:=zqu c { s with ws:=s.ws.set s.free x,free:=s.free+1 } (by simp only[zy6];omega);refine ⟨ws',?_,by rw[h2];simp,fun j=>?_⟩
  ·rw[Sto.fill,if_pos (by omega),h1];simp only;congr 2;omega
  ·rw[h3];simp only;rw[zyV];by_cases e:s.free=j
   ·rw[if_neg (by omega),if_pos e,if_pos (by omega),if_pos (by omega)]
   ·rw[if_neg e];by_cases h4:s.free+1<=j/\j<s.free+1+c
    ·rw[if_pos h4,if_pos (by omega)]
    ·rw[if_neg h4,if_neg (by omega)]
theorem zvD(M:MR sl hf m A φ)(b c:Nat):zaS sl hf (m.hold b c) (A.hold hf b c):=by
 unfold MSt.hold Ma.hold;split
 ·next hc=>
  refine zcS M (fun m' φ' M' hr _=>?_);have fg:=M'.rel.tp;have gS:=M'.rel.hi;have bg:m'.s.node (Hd 2 b c) []=some { m'.s with free:=m'.s.free+1,ws:=m'.s.ws.set m'.s.free (Hd 2 b c) }:=by
   unfold Sto.node;rw[if_pos (by simp;omega)];simp[Go.splice]
  obtain ⟨ws',f1,f2,f3⟩:=zqu (x:=(m'.s.free:Int)) c { m'.s with free:=m'.s.free+1,ws:=m'.s.ws.set m'.s.free (Hd 2 b c) } (by simp only[zy6];omega);simp only[zy6]at f2;have aY:∀ j,ws'[j]?=if j=m'.s.free then some (Hd 2 b c) else if m'.s.free<j/\j<m'.s.free+1+c then some (m'.s.free:Int) else m'.s.ws[j]?:=by
   intro j;rw[f3];simp only;rw[zyV];by_cases e:m'.s.free=j
   ·rw[if_neg (by omega),if_pos e,if_pos (by omega),if_pos e.symm]
   ·have e':¬ j=m'.s.free:=fun x=>e x.symm
    rw[if_neg e,if_neg e'];by_cases h4:m'.s.free+1<=j/\j<m'.s.free+1+c
    ·rw[if_pos h4,if_pos (by omega)]
    ·rw[if_neg h4,if_neg (by omega)]
  have cT:sz (.clo b (List.replicate c A.h.length))=1+c:=by simp[sz]
  have kV:∀ (i f:Nat),(zdd (.clo b (List.replicate c A.h.length)))[i]?=some f->∃ x,ws'[m'.s.free+1+i]?=some x/\Rf (grow φ' A.h.length m'.s.free) (A.h++[.clo b (List.replicate c A.h.length)]) x f:=by
   intro i f hf;simp only[zdd]at hf;have br:=(zyL.1 hf).1;simp at br;have uI:=zzQ (zy1 hf);exact ⟨m'.s.free,by rw[aY,if_neg (by omega),if_pos (by omega)],⟨m'.s.free,rfl,.inl (by rw[uI];simp[grow])⟩⟩
  have R2:=M'.rel.alloc (ws':=ws') (nd:=.clo b (List.replicate c A.h.length)) ⟨hc.1,by simp;omega⟩ rfl (by rw[cT];omega) f2 (fun j hj=>by rw[cT]at hj;rw[aY,if_neg (by omega),if_neg (by omega)]) ⟨(by rw[aY,if_pos rfl];simp[hdr]),(fun v hv=>(by cases hv)),kV⟩;rw[cT]at R2;obtain ⟨p1,p2⟩:=zc5 R2 (x:=m'.s.free) (w:=.ad A.h.length) (by simp only;omega) ⟨m'.s.free,rfl,.inl (by simp[grow])⟩;unfold MSt.put;rw[bg];simp only[zzD];rw[f1];simp only[zzD];have he:m'.s.free+1+c=m'.s.free+(1+c):=by omega
  rw[he,p1];exact zaS.ok ⟨p2,M'.half,M'.fuel,M'.next,M'.below,zoT M'.vi rfl⟩
 ·exact zaS.none _ _ _
variable {w:Wd}
theorem zqU(M:MR sl hf m A φ){k:Nat}(hs:A.slot k=some w):∃ i x,m.slot k=some i/\m.s.ws[i]?=some x/\RW φ A.h x w/\m.s.top<=i/\i<m.s.low+m.s.half:=by
 unfold Ma.slot at hs;split at hs
 ·next h0=>
  have br:=(zyL.1 hs).1;obtain ⟨x,x1,x2⟩:=M.rel.stk _ w hs;have fg:=M.rel.tp;have hb:=M.below;refine ⟨m.s.low+m.s.half-1-(A.below.toNat+k),x,?_,x1,x2,by omega,by omega⟩;unfold MSt.slot;rw[hb,if_pos ⟨h0,by omega⟩];congr 1;omega
 ·cases hs
theorem zoa(M:MR sl hf m A φ)(k:Nat):zaS sl hf (m.ziT k) (A.zjF hf fun A=>A.slot k):=by
 refine zcS M (fun m' φ' M' hr ho=>?_);cases hs:A.slot k with
 |none=>simp only[hs];exact zaS.none _ _ _
 |some w=>
  obtain ⟨i,x,s1,s2,s3,_⟩:=zqU M' hs;obtain ⟨p1,p2⟩:=zc5 M'.rel hr s3;simp only[hs,s1,s2];unfold MSt.put;rw[p1];exact zaS.ok ⟨p2,M'.half,M'.fuel,M'.next,M'.below,M'.vi⟩
theorem zrP(M:MR sl hf m A φ)(f:Nat):zaS sl hf (m.zcW f) (A.zjF hf fun A=>(A.fns[f]?).map Wd.ad):=by
 refine zcS M (fun m' φ' M' hr ho=>?_);cases hs:A.fns[f]? with
 |none=>simp only[hs,Option.map_none];exact zaS.none _ _ _
 |some a=>
  obtain ⟨x,x1,x2⟩:=M'.rel.fn f a hs;obtain ⟨p1,p2⟩:=zc5 M'.rel hr (w:=.ad a) x2;simp only[hs,x1,zzP];unfold MSt.put;rw[p1];exact zaS.ok ⟨p2,M'.half,M'.fuel,M'.next,M'.below,M'.vi⟩
theorem zij(M:MR sl hf m A φ)(k b:Nat):zaS sl hf (m.zcH k b) (if b<=1000000000 then A.zjF hf fun _=>some (.mk k b) else none):=by
 unfold MSt.zcH;split
 ·refine zcS M (fun m' φ' M' hr ho=>?_);obtain ⟨p1,p2⟩:=zc5 M'.rel (x:=Mk k b) (w:=.mk k b) hr rfl;simp only;unfold MSt.put;rw[p1];exact zaS.ok ⟨p2,M'.half,M'.fuel,M'.next,M'.below,M'.vi⟩
 ·exact zaS.none _ _ _
theorem zut(M:MR sl hf m A φ)(c:Nat):zaS sl hf ((m.zci c).map .ok) ((A.zci c).map .ok):=by
 unfold Ma.zci;split
 ·next hc=>
  have fg:=M.rel.tp;have gS:=M.rel.hi;have iY:=M.rel.ft;have hb:=M.below;have aN:(m.s.words m.s.top c).length=c:=by unfold Sto.words;rw[zzf,zzu];omega
  unfold MSt.zci;rw[hb,if_pos ⟨hc.1,by omega,gS,by omega⟩];simp only[zzP];refine zaS.ok (φ:=φ) ⟨?_,M.half,M.fuel,M.next,M.below,M.vi⟩;refine M.rel.zeV (top':=m.s.low+m.s.half-A.below.toNat-c) (zzM _ _ _ (by rw[aN];omega)) (fun j h1 h2=>by rw[zbu _ _ _ _ (by rw[aN];omega),if_pos (by omega)]) (by omega) (by simp;omega) (fun i w hw=>?_);rw[zbu _ _ _ _ (by rw[aN];omega),aN];rw[zzj,zzf,zzV (by omega)]at hw;split at hw
  ·next br=>
   rw[zzy,if_pos br]at hw;obtain ⟨y,y1,y2⟩:=M.rel.stk i w hw;exact ⟨y,by rw[if_neg (by omega),if_neg (by omega)];exact y1,y2⟩
  ·next br=>
   rw[zzx]at hw;have aj:=(zyL.1 hw).1;obtain ⟨y,y1,y2⟩:=M.rel.stk _ w hw;refine ⟨y,?_,y2⟩;rw[if_neg (by omega),if_pos (by omega)];unfold Sto.words;rw[zzy,if_pos (by omega),zzx];rw[<-y1];congr 1;omega
 ·exact zaS.none _ _ _
theorem zjw(M:MR sl hf m A φ){d:Nat}{r:Except Nat Int}(h:A.zdW d=some r):m.numberAt d=some r:=by
 unfold Ma.zdW at h;split at h
 ·next hd=>
  obtain ⟨w,x,w1,w2,w3⟩:=M.rel.word hd;rw[w1]at h;cases w with
  |mk k b=>simp at h
  |ad a=>
   simp only at h;have key:∀ nd,A.h[a]?=some nd->zaV nd=false->∃ p:Nat,x=p/\m.s.ws[p]?=some (hdr nd)/\0<=hdr nd/\hdr nd<9223372036854775808/\∀ v,nd=.num v->m.s.ws[p+1]?=some v:=fun nd hn hf=>by
    obtain ⟨p,p1,p2,p3,p4,p5⟩:=M.rel.zfo w3 hn hf;obtain ⟨r1,r2⟩:=zde (M.rel.ok a nd hn);exact ⟨p,p1,p5.1,r1,r2,p5.2.1⟩
   unfold MSt.numberAt;rw[w2];simp only;cases hn:A.h[a]? with
   |none=>rw[hn]at h;simp at h
   |some nd=>
    rw[hn]at h;cases nd with
    |num v=>
     cases h;obtain ⟨p,rfl,p2,p3,p4,p5⟩:=key _ hn rfl;rw[if_neg (by omega),zy2,p2];simp only;rw[if_neg (by omega),if_pos (by simp[hdr]),p5 v rfl]
    |data t fs=>
     cases h;obtain ⟨p,rfl,p2,p3,p4,p5⟩:=key _ hn rfl;rw[if_neg (by omega),zy2,p2];simp only;rw[if_neg (by omega),if_neg (by simp only[hdr];rw[zbx (by omega)];omega)]
    |clo t fs=>
     cases h;obtain ⟨p,rfl,p2,p3,p4,p5⟩:=key _ hn rfl;rw[if_neg (by omega),zy2,p2];simp only;rw[if_neg (by omega),if_neg (by simp only[hdr];rw[zbx (by omega)];omega)]
    |busy=>simp at h
    |fwd b=>simp at h
 ·cases h
theorem zpD(M:MR sl hf m A φ):zaS sl hf ((m.numberAt 0).map fun q=>q.map fun _=>m) ((A.zdW 0).map fun q=>q.map fun _=>A):=by
 cases h:A.zdW 0 with
 |none=>exact zaS.none _ _ _
 |some r=>
  rw[zjw M h];cases r with
  |error k=>exact zaS.error _ _ _
  |ok v=>exact zaS.ok M
theorem zvd(M:MR sl hf m A φ)(sg:ByteArray)(l r:Int):zaS sl hf (m.calc sg l r) (A.calc hf sg l r):=by
 unfold MSt.calc Ma.calc;split
 ·exact zb2 M _
 ·split
  ·exact zb2 M _
  ·split
   ·exact zb2 M _
   ·split
    ·split
     ·exact zaS.error _ _ _
     ·exact zb2 M _
    ·split
     ·exact zoP M _
     ·split
      ·exact zoP M _
      ·exact zaS.none _ _ _
theorem zpo(M:MR sl hf m A φ)(sg:ByteArray):zaS sl hf (m.compute sg) (A.compute hf sg):=by
 unfold MSt.compute Ma.compute;cases h0:A.zdW 0 with
 |none=>exact zaS.none _ _ _
 |some r0=>
  rw[zjw M h0];cases r0 with
  |error k=>exact zaS.error _ _ _
  |ok r=>
   simp only;cases h1:A.zdW 1 with
   |none=>exact zaS.none _ _ _
   |some r1=>
    rw[zjw M h1];cases r1 with
    |error k=>exact zaS.error _ _ _
    |ok l=>
     simp only;have hl:2<=A.st.length:=by
      unfold Ma.zdW at h1;split at h1
      ·omega
      ·cases h1
     obtain ⟨q1,q2⟩:=zhQ M.rel hl;rw[q1];exact zvd (m:={ m with s:={ m.s with top:=m.s.top+2 } }) (A:={ A with st:=zcE A.st 2 }) ⟨q2,M.half,M.fuel,M.next,M.below,M.vi⟩ sg l r
variable {sl:List Nat} {hf:Nat} {m:MSt} {A:Ma} {φ:Nat->Option Nat}{s:Sto}{fc:List Int}{st:List Wd}{fns:List Nat}{a:Nat}
theorem Rel.zi2(R:Rel s fc h st fns φ){p:Nat}(hp:φ a=some p)(hn:h[a]?=some nd)(hf:zaV nd=false):s.low<=p/\p+sz nd<=s.free/\AtC s.ws (Rf φ h) p nd:=by
 obtain ⟨q,e,h1,h2,h3,h4⟩:=R.zfo (x:=p) ⟨p,rfl,.inl hp⟩ hn hf;have:q=p:=by omega
 subst this;exact ⟨h2,h3,h4⟩
theorem zgn(h:st.getLast?=some w):0<st.length/\st[st.length-1]?=some w:=by
 rw[List.getLast?_eq_getElem?]at h;exact ⟨by have:=(zyL.1 h).1;omega,h⟩
theorem Rel.zdB(R:Rel s fc h st fns φ)(ht:st.getLast?=some (.ad a))(hn:h[a]?=some nd)(hf:zaV nd=false):∃ p,φ a=some p/\s.nodeAt 0=some (p,hdr nd)/\s.ws[s.top]?=some (p:Int)/\s.low<=p/\p+sz nd<=s.free/\AtC s.ws (Rf φ h) p nd:=by
 obtain ⟨h0,h1⟩:=zgn ht;obtain ⟨w,x,w1,w2,w3⟩:=R.word (d:=0) h0;rw[zAl,h1]at w1;cases w1;obtain ⟨p,rfl,p2,p3,p4,p5⟩:=R.zfo w3 hn hf;rw[zzO]at w2;refine ⟨p,p2,?_,w2,p3,p4,p5⟩;unfold Sto.nodeAt;rw[zzO,w2];simp only;rw[if_neg (by omega),zy2,p5.head (R.ok a nd hn) rfl];rfl
theorem zi9(h:zo6 nd)(hf:zaV nd=false):cnt (hdr nd)=(zdd nd).length:=by
 unfold cnt;exact ztf h hf
theorem zqC{nd':Nd}(hn:h[a]?=some nd)(hf:zaV nd=false):∀ (c b:Nat),h[c]?=some (.fwd b)->(h.set a nd')[c]?=some (.fwd b):=by
 intro c b hb;rw[zyV,if_neg (fun e=>by subst e;rw[hn]at hb;cases hb;simp[zaV]at hf)];exact hb
theorem zw3{nd':Nd}(hv:VI sl h)(hn:h[a]?=some nd)(_hf:zaV nd=false)(h1:zaV nd'=false)(h2:val sl nd->val sl nd'):VI sl (h.set a nd'):=by
 have aU:=(zyL.1 hn).1;intro c b hb;rw[zyV]at hb;by_cases e0:a=c
 ·rw[if_pos e0,if_pos aU]at hb;cases hb;simp[zaV]at h1
 ·rw[if_neg e0]at hb;obtain ⟨n,g1,g2⟩:=hv c b hb;by_cases e:a=b
  ·subst e;rw[hn]at g1;cases g1;exact ⟨nd',by rw[zyV,if_pos rfl,if_pos aU],h2 g2⟩
  ·exact ⟨n,by rw[zyV,if_neg e];exact g1,g2⟩
theorem zvw(M:MR sl hf m A φ)(k c:Nat):zaS sl hf (m.zln k c) (A.fill k c):=by
 unfold Ma.fill;cases hs:A.slot k with
 |none=>exact zaS.none _ _ _
 |some w=>
  cases w with
  |mk _ _=>exact zaS.none _ _ _
  |ad a=>
   simp only;cases hn:A.h[a]? with
   |none=>exact zaS.none _ _ _
   |some nd=>
    cases nd with
    |clo b fs=>
     simp only;split
     ·next bZ=>
      cases ht:zlT A.st c with
      |none=>exact zaS.none _ _ _
      |some gs=>
       obtain ⟨i,x,s1,s2,s3,s4,s5⟩:=zqU M hs;obtain ⟨p,rfl,p2,p3,p4,p5⟩:=M.rel.zfo s3 hn rfl;obtain ⟨t1,t2,t3⟩:=ziX ht;obtain ⟨w1,w2⟩:=M.rel.zlT ht;have bU:=M.rel.ok a _ hn;have fg:=M.rel.tp;have gS:=M.rel.hi;have iY:=M.rel.ft;have cT:sz (.clo b fs)=1+c:=by simp[sz,bZ]
       rw[cT]at p4;have iG:cnt (hdr (.clo b fs))=c:=by rw[zi9 bU rfl];exact bZ
       unfold MSt.zln;rw[s1];simp only;rw[s2];simp only;rw[if_neg (by omega),zy2,p5.head bU rfl];simp only;rw[if_pos ⟨iG,by omega,by omega,by omega⟩];have aY:∀ j,(Go.splice m.s.ws (p+1) (m.s.words m.s.top c))[j]?=if j<p+1 then m.s.ws[j]? else if j<p+1+c then (m.s.words m.s.top c)[j-(p+1)]? else m.s.ws[j]?:=fun j=>by
        rw[zbu _ _ _ _ (by rw[w1];omega),w1]
       have R2:=M.rel.zxM (ws':=Go.splice m.s.ws (p+1) (m.s.words m.s.top c)) (nd':=.clo b gs) p2 hn rfl ⟨bU.1,by rw[t2];exact bZ ▸ bU.2⟩ (by simp[sz,bZ,t2]) (zzM _ _ _ (by rw[w1];omega))
        (fun j hj=>by rw[cT]at hj;rw[aY];by_cases h1:j<p+1;rw[if_pos h1];rw[if_neg h1,if_neg (by omega)])
        (.inr ⟨rfl,by rw[aY,if_pos (by omega),p5.1];simp[hdr,bZ,t2],fun v hv=>(by cases hv),fun i f dr=>by
         obtain ⟨y,y1,y2⟩:=w2 i f dr;have:=(zyL.1 y1).1;exact ⟨y,by rw[aY,if_neg (by omega),if_pos (by omega),show p+1+i-(p+1)=i by omega];exact y1,y2.mono (fun _ _ z=>z) (zqC hn rfl)⟩⟩)
        (fun e=>by simp[zaV]at e) (fun b' e=>by cases e)
       obtain ⟨q1,q2⟩:=zhQ R2 t1;unfold MSt.put;rw[q1];refine zaS.ok ⟨q2,M.half,M.fuel,M.next,M.below,zw3 M.vi hn rfl rfl (fun hv=>?_)⟩;obtain ⟨n,n1,n2⟩:=hv;exact ⟨n,n1,by rw[t2];rw[bZ]at n2;exact n2⟩
     ·exact zaS.none _ _ _
    |_=>exact zaS.none _ _ _
variable {b n:Nat}{fs:List Nat}
theorem zsF(M:MR sl hf m A φ)(ht:A.st.getLast?=some (.ad a))(hn:A.h[a]?=some (.clo b fs))(hb:sl[b]?=some n)(hl:n=fs.length):zaS sl hf m.zdy (A.zdy hf a b fs):=by
 have bU:=M.rel.ok a _ hn;obtain ⟨p,p1,p2,p3,p4,p5,p6⟩:=M.rel.zdB ht hn rfl;unfold MSt.zdy;rw[p2];simp only;have hc:cnt (hdr (.clo b fs))=fs.length:=zi9 bU rfl;rw[hc];refine zcS M (fun m1 φ1 M1 hr ho=>?_);obtain ⟨q,q1,q2,q3,q4,q5,q6⟩:=M1.rel.zdB ht hn rfl;obtain ⟨u1,u2⟩:=zc5 M1.rel (x:=Mk 0 0) (w:=.mk 0 0) (by omega) rfl;obtain ⟨s2,e2⟩:∃ s2:Sto,s2={ m1.s with top:=m1.s.top-1,ws:=m1.s.ws.set (m1.s.top-1) (Mk 0 0) }:=⟨_,rfl⟩;rw[<-e2]at u1 u2;have g2:s2.free=m1.s.free/\s2.top=m1.s.top-1:=by rw[e2];exact ⟨rfl,rfl⟩
 obtain ⟨a1,a2,a3⟩:=u2.zi2 q1 hn rfl;have cT:sz (.clo b fs)=1+fs.length:=rfl;have ss:=u2.hi;have se:=u2.ft;have tu:=u2.tp;obtain ⟨f1,f2⟩:=a3.fields (by simp only[zdd];omega);simp only[zdd]at f1 f2;obtain ⟨v1,v2⟩:=zgq u2 (fs:=fs) f1 (by rw[f1];omega) f2;obtain ⟨s3,e3⟩:∃ s3:Sto,s3={ s2 with top:=s2.top-(s2.words (q+1) fs.length).length,ws:=Go.splice s2.ws (s2.top-(s2.words (q+1) fs.length).length) (s2.words (q+1) fs.length) }:=⟨_,rfl⟩;rw[<-e3]at v1 v2;have h3:s3.half=m1.s.half:=by rw[e3,e2]
 obtain ⟨b1,b2,b3⟩:=v2.zi2 q1 hn rfl;have p7:=(zyL.1 b3.1).1;have R4:=v2.zxM (ws':=s3.ws.set q (Hd 3 0 0)) (nd':=.busy) q1 hn rfl trivial (by simp[sz]) (by simp) (fun j hj=>by rw[zyV,if_neg (by omega)])
  (.inr ⟨rfl,(by rw[zyV,if_pos rfl,if_pos p7];rfl),fun v hv=>(by cases hv),fun i f dr=>(by simp[zdd]at dr)⟩) (fun e=>by simp[zaV]at e) (fun b' e=>by cases e)
 unfold MSt.begun;rw[q2];simp only;rw[u1];simp only;rw[a3.head bU rfl];simp only;rw[hc,if_neg (by omega),v1];simp only;rw[b3.head bU rfl];simp only[zzP];refine zaS.ok (φ:=φ1) ⟨R4,h3.trans M1.half,M1.fuel,?_,M1.below,zw3 M1.vi hn rfl rfl (fun hv=>?_)⟩
 ·simp only[hdr];exact zdE (by omega) bU.2
 ·obtain ⟨n',n1,n2⟩:=hv;rw[hb]at n1;cases n1;omega
theorem zrg(M:MR sl hf m A φ)(zao:List (Nat × Nat × Nat)):zaS sl hf (m.choose zao) (A.choose hf zao):=by
 unfold Ma.choose;cases ht:A.st.getLast? with
 |none=>exact zaS.none _ _ _
 |some w=>
  cases w with
  |mk _ _=>exact zaS.none _ _ _
  |ad a=>
   simp only;cases hn:A.h[a]? with
   |none=>exact zaS.none _ _ _
   |some nd=>
    cases nd with
    |num v=>
     obtain ⟨p,p1,p2,_⟩:=M.rel.zdB ht hn rfl;unfold MSt.choose;rw[p2];simp only;rw[if_neg (by simp[hdr])];exact zaS.error _ _ _
    |clo b fs=>
     obtain ⟨p,p1,p2,_⟩:=M.rel.zdB ht hn rfl;unfold MSt.choose;rw[p2];simp only;rw[if_neg (by simp only[hdr];rw[zbx (by omega)];omega)];exact zaS.error _ _ _
    |data t fs=>
     obtain ⟨p,p1,p2,_⟩:=M.rel.zdB ht hn rfl;have bU:=M.rel.ok a _ hn;have hk:hdr (.data t fs)%16=1:=by simp only[hdr];exact zbx (by omega)
     have hw:hdr (.data t fs)/65536=(t:Int):=by simp only[hdr];exact zdE (by omega) bU.2
     have hc:cnt (hdr (.data t fs))=fs.length:=zi9 bU rfl;unfold MSt.choose;rw[p2];simp only;rw[if_pos hk];clear p1
     induction zao with
     |nil=>exact zaS.error _ _ _
     |cons arm l ih=>
      obtain ⟨u,c,b⟩:=arm;rw[MSt.zcc,Ma.zcc,hw];by_cases hu:u=t
      ·rw[if_pos (by omega),if_pos hu];unfold MSt.split;rw[p2];simp only;rw[hc];by_cases uH:c=fs.length
       ·rw[if_pos uH,if_pos uH];refine zcS M (fun m1 φ1 M1 hr ho=>?_);obtain ⟨q,q1,q2,q3,q4,q5,q6⟩:=M1.rel.zdB ht hn rfl;obtain ⟨g0,_⟩:=zgn ht;obtain ⟨u1,u2⟩:=zhQ M1.rel (c:=1) (by omega);obtain ⟨a1,a2,a3⟩:=u2.zi2 q1 hn rfl;have cT:sz (.data t fs)=1+fs.length:=rfl;have ss:=u2.hi;have se:=u2.ft;have tu:=u2.tp;simp only at a2 ss se tu;obtain ⟨f1,f2⟩:=a3.fields (s:={ m1.s with top:=m1.s.top+1 }) (by simp only[zdd];omega);obtain ⟨v1,v2⟩:=zgq u2 (fs:=fs) f1 (by rw[f1];simp only[zdd];omega) f2;unfold MSt.zqM;rw[q2];simp only;rw[u1];simp only;rw[hc,if_neg (by omega)];simp only[zdd]at v1;rw[v1];simp only[zzP];exact zaS.ok (φ:=φ1) ⟨v2,M1.half,M1.fuel,rfl,M1.below,M1.vi⟩
       ·rw[if_neg uH,if_neg uH];exact zaS.error _ _ _
      ·rw[if_neg (by omega),if_neg hu];exact ih
    |_=>exact zaS.none _ _ _
variable {sl:List Nat} {hf:Nat} {m:MSt} {A:Ma} {φ:Nat->Option Nat}
theorem zmd{i:Nat}(h:(zcE st c)[i]?=some w):st[i]?=some w:=by
 unfold zcE at h;rw[zzy]at h;split at h
 ·exact h
 ·cases h
theorem zdF(st:List Wd)(c:Nat):(zcE st c).length=st.length-c:=by unfold zcE;rw[zzf];omega
theorem zrs(M:MR sl hf m A φ)(ht:A.st.getLast?=some (.ad a))(hn:A.h[a]?=some (.clo b fs))(_hb:sl[b]?=some n):zaS sl hf (m.extend c) (A.extend hf b c fs):=by
 have bU:=M.rel.ok a _ hn;obtain ⟨p,p1,p2,p3,p4,p5,p6⟩:=M.rel.zdB ht hn rfl;have hc:cnt (hdr (.clo b fs))=fs.length:=zi9 bU rfl;unfold MSt.extend;rw[p2];simp only;rw[hc];refine zcS M (fun m1 φ1 M1 hr ho=>?_);split
 ·next hg=>
  cases fg:zlT (zcE A.st 2) c with
  |none=>exact zaS.none _ _ _
  |some gs=>
   obtain ⟨t1,t2,t3⟩:=ziX fg;rw[zdF]at t1;obtain ⟨q,q1,q2,q3,q4,q5,q6⟩:=M1.rel.zdB ht hn rfl;have cT:sz (.clo b fs)=1+fs.length:=rfl;have gS:=M1.rel.hi;have iY:=M1.rel.ft;have yd:=M1.rel.tp;obtain ⟨f1,f2⟩:=q6.fields (by simp only[zdd];omega);simp only[zdd]at f1 f2;have hw:hdr (.clo b fs)/65536=(b:Int):=by simp only[hdr];exact zdE (by omega) bU.2
   have bg:m1.s.node (Hd 2 b (fs.length+c)) (m1.s.words (q+1) fs.length)=some { m1.s with free:=m1.s.free+1+fs.length,ws:=Go.splice (m1.s.ws.set m1.s.free (Hd 2 b (fs.length+c))) (m1.s.free+1) (m1.s.words (q+1) fs.length) }:=by
    unfold Sto.node;rw[f1,if_pos (by omega)]
   obtain ⟨s2,e2⟩:∃ s2:Sto,s2={ m1.s with free:=m1.s.free+1+fs.length,ws:=Go.splice (m1.s.ws.set m1.s.free (Hd 2 b (fs.length+c))) (m1.s.free+1) (m1.s.words (q+1) fs.length) }:=⟨_,rfl⟩;rw[<-e2]at bg;have rq:s2.free=m1.s.free+1+fs.length:=by rw[e2]
   have DJ:s2.top=m1.s.top:=by rw[e2]
   have zB:s2.ws.length=m1.s.ws.length:=by rw[e2];simp only;rw[zzM _ _ _ (by rw[zy6,f1];omega),zy6]
   have gI:∀ j,s2.ws[j]?=if j=m1.s.free then some (Hd 2 b (fs.length+c)) else if m1.s.free<j/\j<m1.s.free+1+fs.length then (m1.s.words (q+1) fs.length)[j-(m1.s.free+1)]? else m1.s.ws[j]?:=by
    intro j;rw[e2];simp only;rw[zbu _ _ _ _ (by rw[zy6,f1];omega),f1];by_cases h1:j=m1.s.free
    ·rw[if_pos (by omega),if_pos h1,h1,zyV,if_pos rfl,if_pos (by omega)]
    ·have cS:(m1.s.ws.set m1.s.free (Hd 2 b (fs.length+c)))[j]?=m1.s.ws[j]?:=by rw[zyV,if_neg (fun e=>h1 e.symm)]
     rw[if_neg h1];by_cases h2:j<m1.s.free+1
     ·rw[if_pos h2,if_neg (by omega),cS]
     ·rw[if_neg h2];by_cases h3:j<m1.s.free+1+fs.length
      ·rw[if_pos h3,if_pos (by omega)]
      ·rw[if_neg h3,if_neg (by omega),cS]
   have eE:(s2.words (s2.top+2) c).length=c:=by unfold Sto.words;rw[zzf,zzu];omega
   have Fs:∀ i,i<c->(s2.words (s2.top+2) c)[i]?=m1.s.ws[m1.s.top+(2+i)]?:=fun i hi=>by
    unfold Sto.words;rw[zzy,if_pos hi,zzx,DJ,gI,if_neg (by omega),if_neg (by omega),show m1.s.top+2+i=m1.s.top+(2+i) by omega]
   obtain ⟨pC,e3⟩:∃ pC,pC=Go.splice s2.ws s2.free (s2.words (s2.top+2) c):=⟨_,rfl⟩;have DK:pC.length=m1.s.ws.length:=by rw[e3,zzM _ _ _ (by rw[eE];omega),zB]
   have jG:∀ j,pC[j]?=if j<s2.free then s2.ws[j]? else if j<s2.free+c then (s2.words (s2.top+2) c)[j-s2.free]? else s2.ws[j]?:=fun j=>by rw[e3,zbu _ _ _ _ (by rw[eE];omega),eE]
   have ph:sz (.clo b (fs++gs))=1+fs.length+c:=by simp[sz,t2];omega
   have kV:∀ (i f:Nat),(zdd (.clo b (fs++gs)))[i]?=some f->∃ x,pC[m1.s.free+1+i]?=some x/\Rf (grow φ1 A.h.length m1.s.free) (A.h++[.clo b (fs++gs)]) x f:=by
    intro i f dr;simp only[zdd]at dr;rw[zzj]at dr;split at dr
    ·next br=>
     obtain ⟨x,x1,x2⟩:=f2 i f dr;refine ⟨x,?_,x2.mono (M1.rel.grown _) zhE⟩;rw[jG,if_pos (by omega),gI,if_neg (by omega),if_pos (by omega),show m1.s.free+1+i-(m1.s.free+1)=i by omega];exact x1
    ·next br=>
     have fX:=(zyL.1 dr).1;have dY:=zmd (t3 (i-fs.length) f dr);rw[zdF]at dY;obtain ⟨w,x,w1,w2,w3⟩:=M1.rel.word (d:=2+(i-fs.length)) (by omega);rw[show A.st.length-1-(2+(i-fs.length))=A.st.length-2-1-(i-fs.length) by omega,dY]at w1;cases w1;refine ⟨x,?_,Rf.mono (M1.rel.grown _) zhE w3⟩;rw[jG,if_neg (by omega),if_pos (by omega),show m1.s.free+1+i-s2.free=i-fs.length by omega,Fs _ (by omega)];exact w2
   have R2:=M1.rel.alloc (ws':=pC) (nd:=.clo b (fs++gs)) ⟨bU.1,by rw[zyT,t2];exact hg.1⟩ rfl (by rw[ph];omega) DK (fun j hj=>by
    rw[ph]at hj;rw[jG];by_cases h1:j<s2.free
    ·rw[if_pos h1,gI,if_neg (by omega),if_neg (by omega)]
    ·rw[if_neg h1,if_neg (by omega),gI,if_neg (by omega),if_neg (by omega)])
    ⟨(by rw[jG,if_pos (by omega),gI,if_pos rfl];simp only[hdr];rw[zyT,t2]),(fun v hv=>(by cases hv)),kV⟩
   rw[ph]at R2;obtain ⟨u1,u2⟩:=zhQ R2 (c:=2+c) (by omega);obtain ⟨v1,v2⟩:=zc5 u2 (x:=m1.s.free) (w:=.ad A.h.length) (by simp only;omega) ⟨m1.s.free,rfl,.inl (by simp[grow])⟩;unfold MSt.extended;rw[q2];simp only;rw[hc,hw,zy2,if_pos ⟨hg.1,by have:=bU.1;omega,by omega,by omega,hg.2⟩,bg];simp only;rw[if_pos ⟨by rw[gI,if_neg (by omega),if_neg (by omega)];exact q6.1,zB,by omega,by omega⟩];have bP:({ s2 with ws:=Go.splice s2.ws s2.free (s2.words (s2.top+2) c),free:=s2.free+c }:Sto)={ m1.s with ws:=pC,free:=m1.s.free+(1+fs.length+c) }:=by
    rw[<-e3,rq];rw[e2];simp only[Sto.mk.injEq];refine ⟨trivial,trivial,trivial,by omega,trivial⟩
   rw[bP,u1];simp only[zzD];rw[v1];simp only[zzP];exact zaS.ok ⟨v2,M1.half,M1.fuel,M1.next,M1.below,zoT M1.vi rfl⟩
 ·exact zaS.none _ _ _
theorem ztq(R:Rel s fc h st fns φ){lk lf:Nat}(hl:lk<=st.length)(kg:lf≠0)(bZ:lf<=1000000)(ew:s.free+1<=s.top):∃ s',s.leave lk lf=some s'/\Rel s' fc h (leave st lk lf) fns φ/\s'.free=s.free/\s'.top=s.top-1/\s'.half=s.half/\s'.ws.length=s.ws.length:=by
 have fg:=R.tp;have gS:=R.hi;have aN:(s.words s.top lk).length=lk:=by unfold Sto.words;rw[zzf,zzu];omega
 have aK:(Go.splice s.ws (s.top-1) (s.words s.top lk)).length=s.ws.length:=zzM _ _ _ (by rw[aN];omega);refine ⟨{ s with top:=s.top-1,ws:=(Go.splice s.ws (s.top-1) (s.words s.top lk)).set (s.top-1+lk) (Mk 2 lf) },?_,?_,rfl,rfl,rfl,by simp only[zy6];exact aK⟩
 ·unfold Sto.leave;rw[if_pos ⟨by omega,by omega,bZ⟩]
 ·have aY:∀ j,((Go.splice s.ws (s.top-1) (s.words s.top lk)).set (s.top-1+lk) (Mk 2 lf))[j]?=if j=s.top-1+lk then some (Mk 2 lf) else if s.top-1<=j/\j<s.top-1+lk then s.ws[j+1]? else s.ws[j]?:=by
   intro j;rw[zyV,aK];by_cases h1:s.top-1+lk=j
   ·rw[if_pos h1,if_pos (by omega),if_pos h1.symm]
   ·have iB:¬ j=s.top-1+lk:=fun e=>h1 e.symm
    rw[if_neg h1,if_neg iB,zbu _ _ _ _ (by rw[aN];omega),aN];by_cases h2:j<s.top-1
    ·rw[if_pos h2,if_neg (by omega)]
    ·rw[if_neg h2];by_cases h3:j<s.top-1+lk
     ·rw[if_pos h3,if_pos (by omega)];unfold Sto.words;rw[zzy,if_pos (by omega),zzx];congr 1;omega
     ·rw[if_neg h3,if_neg (by omega)]
  unfold leave;rw[if_neg kg];refine R.zeV (by rw[zy6];exact aK) (fun j h1 h2=>by rw[aY,if_neg (by omega),if_neg (by omega)]) (by omega) (by simp;omega) (fun i w hw=>?_);rw[aY];rw[zzk,zzj,zzf,zzV (by omega)]at hw;split at hw
  ·next br=>
   rw[zzy,if_pos br]at hw;obtain ⟨y,y1,y2⟩:=R.stk i w hw;exact ⟨y,by rw[if_neg (by omega),if_neg (by omega)];exact y1,y2⟩
  ·next br=>
   by_cases h0:i=st.length-lk
   ·subst h0;simp at hw;subst hw;exact ⟨Mk 2 lf,by rw[if_pos (by omega)],rfl⟩
   ·rw[List.singleton_append,show i-(st.length-lk)=(i-(st.length-lk)-1)+1 by omega,zzT,zzx]at hw;have aj:=(zyL.1 hw).1;obtain ⟨y,y1,y2⟩:=R.stk _ w hw;refine ⟨y,?_,y2⟩;rw[if_neg (by omega),if_pos (by omega),<-y1];congr 1;omega
theorem zvi(M:MR sl hf m A φ){lk lf:Nat}(ht:A.st.getLast?=some (.ad a))(hn:A.h[a]?=some (.clo b fs))(_hb:sl[b]?=some n):zaS sl hf (m.call lk lf) (A.call hf b lk lf fs):=by
 have bU:=M.rel.ok a _ hn;obtain ⟨p,p1,p2,p3,p4,p5,p6⟩:=M.rel.zdB ht hn rfl;have hc:cnt (hdr (.clo b fs))=fs.length:=zi9 bU rfl;unfold MSt.call;rw[p2];simp only;rw[hc];refine zcS M (fun m1 φ1 M1 hr ho=>?_);split
 ·next hg=>
  obtain ⟨q,q1,q2,q3,q4,q5,q6⟩:=M1.rel.zdB ht hn rfl;have cT:sz (.clo b fs)=1+fs.length:=rfl;have gS:=M1.rel.hi;have iY:=M1.rel.ft;have yd:=M1.rel.tp;obtain ⟨u1,u2⟩:=zhQ M1.rel (c:=2) (by omega);have hcut:A.st.take (A.st.length-2)=zcE A.st 2:=rfl;rw[hcut]at u2;have hL:∃ s3,(if lf=0 then some { m1.s with top:=m1.s.top+2 } else Sto.leave { m1.s with top:=m1.s.top+2 } lk lf)=some s3/\Rel s3 m1.fns A.h (leave (zcE A.st 2) lk lf) A.fns φ1/\s3.free=m1.s.free/\m1.s.top<=s3.top/\s3.half=m1.s.half/\s3.ws.length=m1.s.ws.length:=by
   by_cases h0:lf=0
   ·rw[if_pos h0];refine ⟨_,rfl,?_,rfl,by simp only;omega,rfl,rfl⟩;unfold leave;rw[if_pos h0];exact u2
   ·rw[if_neg h0];obtain ⟨s3,l1,l2,l3,l4,l5,l6⟩:=ztq u2 (lk:=lk) (lf:=lf) (by rw[zdF];omega) h0 hg.2 (by simp only;omega);exact ⟨s3,l1,l2,l3,by rw[l4];simp only;omega,l5,l6⟩
  obtain ⟨s3,l1,l2,l3,l4,l5,l6⟩:=hL;obtain ⟨a1,a2,a3⟩:=l2.zi2 q1 hn rfl;have EA:=l2.hi;have Ev:=l2.ft;have Fg:=l2.tp;obtain ⟨f1,f2⟩:=a3.fields (by simp only[zdd];omega);simp only[zdd]at f1 f2;obtain ⟨v1,v2⟩:=zgq l2 (fs:=fs) f1 (by rw[f1];omega) f2;obtain ⟨s4,e4⟩:∃ s4:Sto,s4={ s3 with top:=s3.top-(s3.words (q+1) fs.length).length,ws:=Go.splice s3.ws (s3.top-(s3.words (q+1) fs.length).length) (s3.words (q+1) fs.length) }:=⟨_,rfl⟩;rw[<-e4]at v1 v2;have h4:s4.half=m1.s.half:=by rw[e4];exact l5
  obtain ⟨b1,b2,b3⟩:=v2.zi2 q1 hn rfl;unfold MSt.called;rw[q2];simp only;rw[u1];simp only;rw[l1];simp only;rw[a3.head bU rfl];simp only;rw[hc,if_neg (by omega),v1];simp only;rw[b3.head bU rfl];simp only[zzP];refine zaS.ok (φ:=φ1) ⟨v2,h4.trans M1.half,M1.fuel,?_,M1.below,M1.vi⟩;simp only[hdr];exact zdE (by omega) bU.2
 ·exact zaS.none _ _ _
theorem zpc(M:MR sl hf m A φ)(c:Nat){r:Except Nat (Bool × Ma)}(h:A.za5 hf sl c=some r):
  match r with
  |.error k=>m.za5 sl c=some (.error k)
  |.ok q=>∃ m' φ',m.za5 sl c=some (.ok (q.1,m'))/\MR sl hf m' q.2 φ':=by
 unfold Ma.za5 at h;cases ht:A.st.getLast? with
 |none=>rw[ht]at h;simp at h
 |some w=>
  rw[ht]at h;cases w with
  |mk _ _=>simp at h
  |ad a=>
   simp only at h;cases hn:A.h[a]? with
   |none=>rw[hn]at h;simp at h
   |some nd=>
    rw[hn]at h;have hl:∀ nd',A.h[a]?=some nd'->zaV nd'=false->∃ p,m.s.nodeAt 0=some (p,hdr nd')/\m.s.head p=some (hdr nd')/\m.s.ws[p]?=some (hdr nd')/\0<=hdr nd'/\hdr nd' < 9223372036854775808:=fun nd' gw dr=>by
     obtain ⟨p,p1,p2,p3,p4,p5,p6⟩:=M.rel.zdB ht gw dr;obtain ⟨r1,r2⟩:=zde (M.rel.ok a _ gw);exact ⟨p,p2,p6.head (M.rel.ok a _ gw) rfl,p6.1,r1,r2⟩
    cases nd with
    |num v=>
     simp only at h;cases h;obtain ⟨p,h1,h2,h3,h4,h5⟩:=hl _ hn rfl;simp only;unfold MSt.za5;rw[h1];simp only;unfold Sto.zfJ;rw[h3];simp only;rw[if_neg (by omega),if_neg (by simp[hdr])];simp
    |data t fs=>
     simp only at h;cases h;obtain ⟨p,h1,h2,h3,h4,h5⟩:=hl _ hn rfl;simp only;unfold MSt.za5;rw[h1];simp only;unfold Sto.zfJ;rw[h3];simp only;rw[if_neg (by omega),if_neg (by simp only[hdr];rw[zbx (by omega)];omega)];simp
    |clo b fs=>
     simp only at h;obtain ⟨p,h1,h2,h3,h4,h5⟩:=hl _ hn rfl;have bU:=M.rel.ok a _ hn;cases hb:sl[b]? with
     |none=>rw[hb]at h;simp at h
     |some n=>
      rw[hb]at h;simp only at h;split at h
      ·cases h
      ·next aj=>
       have mO:m.s.zfJ sl p=some ((n:Int)-fs.length):=by
        unfold Sto.zfJ;rw[h3];simp only;rw[if_neg (by omega),if_pos (by simp only[hdr];exact zbx (by omega))];have hw:hdr (.clo b fs)/65536=(b:Int):=by simp only[hdr];exact zdE (by omega) bU.2
        have iG:hdr (.clo b fs)/16%4096=(fs.length:Int):=by simp only[hdr];exact zeb (by omega) bU.2
        rw[hw,zy2,hb,iG]
       have Fj:m.za5 sl c=(if (c:Int)<(n:Int)-fs.length then (match m.extend c with|none=>none|some (.error k)=>some (.error k)|some (.ok m')=>some (.ok (false,m'))) else if 2000000<c then none else (match m.call (n-fs.length) (c-(n-fs.length)) with|none=>none|some (.error k)=>some (.error k)|some (.ok m')=>some (.ok (true,m')))):=by
        unfold MSt.za5;rw[h1];simp only;rw[mO];simp only;rw[if_neg (by omega),show ((n:Int)-fs.length).toNat=n-fs.length by omega];rfl
       rw[Fj];split at h
       ·next aN=>
        rw[if_pos (by omega)];cases he:A.extend hf b c fs with
        |none=>rw[he]at h;simp at h
        |some q=>
         rw[he]at h;have hs:=zrs M (c:=c) ht hn hb q he;cases q with
         |error k=>simp only at h hs;cases h;simp only;rw[hs]
         |ok A'=>
          simp only at h hs;cases h;obtain ⟨m',φ',g1,g2⟩:=hs;simp only;rw[g1];exact ⟨m',φ',rfl,g2⟩
       ·next aN=>
        rw[if_neg (by omega)];split at h
        ·cases h
        ·next DI=>
         rw[if_neg DI];cases he:A.call hf b (n-fs.length) (c-(n-fs.length)) fs with
         |none=>rw[he]at h;simp at h
         |some q=>
          rw[he]at h;have hs:=zvi M (lk:=n-fs.length) (lf:=c-(n-fs.length)) ht hn hb q he;cases q with
          |error k=>simp only at h hs;cases h;simp only;rw[hs]
          |ok A'=>
           simp only at h hs;cases h;obtain ⟨m',φ',g1,g2⟩:=hs;simp only;rw[g1];exact ⟨m',φ',rfl,g2⟩
    |busy=>simp at h
    |fwd b=>simp at h
end Ab
end Go.Proofs.YtgahgkddaljmkaaGreatDoor
