/- Cmp45 .. Wel1 -/
import Derived.Test.YtgahgkddaljmkaaGreatDoorV11
set_option maxRecDepth 100000
set_option maxHeartbeats 4000000
namespace Go.Proofs.YtgahgkddaljmkaaGreatDoor
open Tryz Th Cp
section
open Go.RowKit Go.Shelf
theorem Cp.zig(wk:Th.Ex->Nat->Cp.Bs->Cp.Bs)(fr:Th.Ex->List Cp.Nm)(p:Th.Ex):∀(l:List Th.Ex)(b:Cp.Bs)(a:List (List Cp.Nm)),Cp.makeAll wk fr (l++[p]) b a =
  ((Mp wk fr (makeAll wk fr l b a).1 p).1.write (.hold (Mp wk fr (makeAll wk fr l b a).1 p).2.1 (Mp wk fr (makeAll wk fr l b a).1 p).2.2.length),(makeAll wk fr l b a).2++[(Mp wk fr (makeAll wk fr l b a).1 p).2.2])
 |[],b,a=>rfl
 |x::l,b,a=>by rw[MP,makeAll,makeAll];exact zig wk fr p l _ _
theorem Cp.zib(fns:List Cp.Nm)(x:List Cp.Nm):∀(l:List (List Cp.Nm))(i:Nat)(b:Cp.Bs),Cp.Od fns i (l++[x]) b=((((Cp.Od fns i l b).J7 fns x).drop x.length).write (.fill (i+l.length) x.length))
 |[],i,b=>rfl
 |y::l,i,b=>by rw[MP,Od,Od,zib fns x l (i+1) _];rw[show i+1+l.length=i+(y::l).length by simp;omega]
variable {i:Nat}
theorem zj1{α:Type}{l:List α}{p:α}(h:l[i]?=some p):l.take (i+1)=l.take i++[p]:=by rw[T9,h];rfl
theorem Cp.zqW(f:Th.Ex->Nat){l:List Th.Ex}{p:Th.Ex}(h:l[i]?=some p):((l.take i).map f).sum+f p<=(l.map f).sum:=by
 have h1:(l.map f).sum=((l.take (i+1)).map f).sum+((l.drop (i+1)).map f).sum:=by rw[<-TH,<-SO,U5]
 rw[zj1 h,SO,TH]at h1;simp only[Ki,qO,MW,Jv]at h1;omega
theorem Vq{l:List Tok}(h:∀t∈l,t.s≠[]){x:Cp.Nm}(hx:x∈texts l):x≠[]:=by obtain⟨t,h1,h2⟩:=Ro.1 hx;rw[<-h2];exact h t h1
variable {M N:Nat}{fns:List Cp.Nm}{e d:Ex}{parts:List Ex}
theorem ztr{wk:Ex->Nat->Bs->Bs}(hw:P7 M N wk){q:Bs}(hk:e.kind=7\/e.kind=8)(k1:e.kids=d::parts)(k3:parts.length=e.names.length)(hf:Fit M N fns q e):Fit M N fns (Oz wk (Cp.free N) fns e parts q) d:=by
 obtain⟨a1,a2,a3⟩:=WX hw fns k1 k3 q hf.dp hf.wt;have dj:=hf.dp.wt;rw[k1]at dj;simp only[Ki,MW]at dj;have mQ:(M+8)*(Cp.wt N d+e.names.length+1)<=(M+8)*Cp.wt N e:=Pr _ (by omega);rw[OP,OP]at mQ;have ev:e.names.length<=(M+8)*e.names.length:=VR _ (by omega);have cu:=Sw e.names;refine hf.part (hf.dp.Nn (by simp[k1])) (by omega) (λx hx=>?_) (by omega) (by rw[a2,IJ];omega) (by omega);rw[a2];by_cases fT:x∈texts e.names
 .exact⟨Vq hf.dp.Nf.nm fT,.inl (by simp[fT])⟩
 .have ak:=hf.dp.free;rw[k1]at ak;have tE:x∈Cp.free N e:=by
   rw[ak];rcases hk with hk|hk
   .simp only[hk];simp[No,Pu,hx,fT]
   .simp only[hk];simp[No,Pu,hx,fT]
  obtain⟨c1,c2⟩:=hf.nm x tE;refine⟨c1,?_⟩;rcases c2 with c2|c2
  .exact .inl (by simp[c2])
  .exact .inr c2
variable {n:Nat}{Z:Nat->Prop}{w:World}{cb bb:Nat}{rv sv kv pv:Value}
theorem zvP(hW:Nw M N n)(hn:n+1<=N){bv:Value}{q:Bs}{pvs:List Value}(h:BS Z w cb bb rv sv kv fns q)(hk:e.kind=8)(k1:e.kids=d::parts)(k3:parts.length=e.names.length)(k4:pvs.length=e.names.length)(k5:Row Z w 312 3 pv e.names.length (Ob e.names pvs))(k6:∀(i:Nat)(bv:Value)(p:Ex),pvs[i]?=some bv->parts[i]?=some p->qU Z w n bv p)(k7:qU Z w n bv d)(hf:Fit M N fns q e):
  Calls prog 94 #[.pointer (some ⟨bb,0,none⟩),.agg #[.bool true,pv,bv],.int .i64 0] w λr w'=>r=.returned (.tuple #[])/\ES Z w cb bb rv sv kv fns (Qb (Cp.work (Cp.free N) fns n) (Cp.free N) fns e q) w':=by
 obtain⟨pp,pn,pc,rfl⟩:=Jk k5;obtain⟨bt,bx,rfl⟩:=JQ k7;have aX:=Oa M N fns n;have oW:=ztr aX (.inr hk) k1 k3 hf;have Et:=oW.prod;have hw:=hf.wt;have hm:=hf.mm;have aN:=hf.cl;have aK:=hf.sl;have bZ:=hf.fl;have dj:=hf.dp.wt;rw[k1]at dj;simp only[Ki,MW]at dj;have cu:=Sw e.names;have mQ:(M+8)*(Cp.wt N d+(parts.map (Cp.wt N)).sum+e.names.length+1)<=(M+8)*Cp.wt N e:=Pr _ (by omega);rw[OP,OP,OP]at mQ;have ev:e.names.length<=(M+8)*e.names.length:=VR _ (by omega);have cQ:∀x∈parts,Dp N x/\Cp.wt N x<=M:=λx hx=>⟨hf.dp.Nn (by simp[k1,hx]),by have:=QR (f:=Cp.wt N) hx;omega⟩
 have bp:0<e.names.length:=Qw.2 (hf.dp.Nf.k7 (.inr hk)).1;obtain⟨b,dq⟩:∃b:Bs,b=⟨q.blocks,q.kD++texts e.names,q.code⟩:=⟨_,rfl⟩;have gG:b.kD=q.kD++texts e.names:=by rw[dq]
 have Ed:b.code=q.code:=by rw[dq]
 have iC:b.blocks=q.blocks:=by rw[dq]
 have Ee:b.code.length=q.code.length:=by rw[Ed]
 have Ei:b.kD.length=q.kD.length+e.names.length:=by rw[gG,IJ,cu]
 rw[UF k1];have IU:Oz (Cp.work (Cp.free N) fns n) (Cp.free N) fns e parts q=Od fns q.kD.length (makeAll (Cp.work (Cp.free N) fns n) (Cp.free N) parts b []).2 (makeAll (Cp.work (Cp.free N) fns n) (Cp.free N) parts b []).1:=by unfold Oz;rw[nB hk,dq]
 obtain⟨m1,m2,m3,m4,m5⟩:=Yw aX parts b [] cQ (by simp);have xL:∀i,(makeAll (Cp.work (Cp.free N) fns n) (Cp.free N) (parts.take i) b []).1.blocks.length<=b.blocks.length+8*((parts.take i).map (Cp.wt N)).sum/\(makeAll (Cp.work (Cp.free N) fns n) (Cp.free N) (parts.take i) b []).1.kD=b.kD/\(makeAll (Cp.work (Cp.free N) fns n) (Cp.free N) (parts.take i) b []).1.code.length=b.code.length+(parts.take i).length:=λi=>by obtain⟨c1,c2,c3,_,_⟩:=Yw aX (parts.take i) b [] (λx hx=>cQ x (XK hx)) (by simp);exact⟨c1,c2,c3⟩
 have aY:∀i,i<e.names.length->∃p,parts[i]?=some p/\p∈parts:=λi hi=>⟨parts[i]'(by omega),Iv (by omega),List.getElem_mem _⟩
 rw[MQ]at m4;have hmul:∀i,i<=e.names.length->(M+1)*i+e.names.length<=(M+8)*e.names.length:=λi hi=>by
  have h1:(M+1)*i<=(M+1)*e.names.length:=Pr _ hi;have h2:(M+8)*e.names.length=(M+1)*e.names.length+7*e.names.length:=by rw[<-Nat.add_mul]
  omega
 have iY:∀i,i<=e.names.length->(Od fns q.kD.length ((makeAll (Cp.work (Cp.free N) fns n) (Cp.free N) parts b []).2.take i) (makeAll (Cp.work (Cp.free N) fns n) (Cp.free N) parts b []).1).kD=b.kD/\(Od fns q.kD.length ((makeAll (Cp.work (Cp.free N) fns n) (Cp.free N) parts b []).2.take i) (makeAll (Cp.work (Cp.free N) fns n) (Cp.free N) parts b []).1).code.length<=b.code.length+(M+8)*e.names.length:=λi hi=>by
  obtain⟨c1,c2,c3⟩:=zje (M:=M) fns ((makeAll (Cp.work (Cp.free N) fns n) (Cp.free N) parts b []).2.take i) q.kD.length (makeAll (Cp.work (Cp.free N) fns n) (Cp.free N) parts b []).1 (λx hx=>m5 x (XK hx));have hl:((makeAll (Cp.work (Cp.free N) fns n) (Cp.free N) parts b []).2.take i).length=i:=by rw[m4];simp;omega
  rw[hl]at c3;have:=hmul i hi;exact⟨c2.trans m2,by omega⟩
 refine zvN hW h k7 (λZ1 W hZ fW aA=>?_) oW (by omega);rw[IU];have ll:Od fns q.kD.length (makeAll (Cp.work (Cp.free N) fns n) (Cp.free N) parts b []).2 (makeAll (Cp.work (Cp.free N) fns n) (Cp.free N) parts b []).1=Od fns q.kD.length ((makeAll (Cp.work (Cp.free N) fns n) (Cp.free N) parts b []).2.take e.names.length) (makeAll (Cp.work (Cp.free N) fns n) (Cp.free N) parts b []).1:=by rw[N8 (by rw[m4];simp;omega)]
 rw[ll];refine zis (n:=n) (parts:=parts) (pvs:=pvs) (l:=e.names) (st:=λi=>(makeAll (Cp.work (Cp.free N) fns n) (Cp.free N) (parts.take i) b []).1)
  (qc:=λi=>(Mp (Cp.work (Cp.free N) fns n) (Cp.free N) (makeAll (Cp.work (Cp.free N) fns n) (Cp.free N) (parts.take i) b []).1 (parts.getD i Mw)).1)
  (bk:=λi=>(Mp (Cp.work (Cp.free N) fns n) (Cp.free N) (makeAll (Cp.work (Cp.free N) fns n) (Cp.free N) (parts.take i) b []).1 (parts.getD i Mw)).2.1)
  (nms:=λi=>Il b.kD (Cp.free N (parts.getD i Mw)))
  (ft:=λi=>Od fns q.kD.length ((makeAll (Cp.work (Cp.free N) fns n) (Cp.free N) parts b []).2.take i) (makeAll (Cp.work (Cp.free N) fns n) (Cp.free N) parts b []).1)
  aA k3 k4 (k5.Ku fW (by simp) (λk _ x=>hZ k x)) (λi bv p hi hp=>(k6 i bv p hi hp).Ku fW (by simp) (λk _ x=>hZ k x)) ?_ ?_ ?_ ?_ ?_ ?_ ?_ (by omega) bp (by omega) (by omega)
 .simp only[Rp,makeAll];exact dq
 .intro i e' Z2 W2 bh bf cA v lZ aw cg;have hg:parts.getD i Mw=e':=by rw[U0,lZ];rfl
  have fO:=ML lZ;obtain⟨c1,c2,c3⟩:=xL i;have dY:=zqW (Cp.wt N) lZ;have qf:(parts.take i).length<=e.names.length:=by simp;omega
  have jo:(M+8)*Cp.wt N e'<=(M+8)*(parts.map (Cp.wt N)).sum:=Pr _ (by omega);have hC:=W9 hW hn aw cg (hf.part (cQ e' fO).1 (by omega) (λx hx=>?_) (by omega) (by rw[c2,gG,IJ];omega) (by rw[iC]at c1;omega))
  .unfold Xs at hC;simp only[hg];rw[c2]at hC;exact hC
  .rw[c2,gG];by_cases fT:x∈texts e.names
   .exact⟨Vq hf.dp.Nf.nm fT,.inl (by simp[fT])⟩
   .have ak:=hf.dp.free;rw[k1]at ak;simp only[hk]at ak;simp at ak;obtain⟨g1,g2⟩:=hf.nm x (by
     rw[ak];exact No.2 (.inl (Pu.2 ⟨Sr.2 (.inr ⟨e',fO,hx⟩),fT⟩)))
    refine⟨g1,?_⟩;rcases g2 with g2|g2
    .exact .inl (by simp[g2])
    .exact .inr g2
 .intro i hi;obtain⟨p,hp,pZ⟩:=aY i hi;have hg:parts.getD i Mw=p:=by rw[U0,hp];rfl
  obtain⟨c1,c2,c3⟩:=xL i;obtain⟨bl,Ej⟩:=Ys (Cp.work (Cp.free N) fns n) (Cp.free N) (makeAll (Cp.work (Cp.free N) fns n) (Cp.free N) (parts.take i) b []).1 p;have xq:(Mp (Cp.work (Cp.free N) fns n) (Cp.free N) (makeAll (Cp.work (Cp.free N) fns n) (Cp.free N) (parts.take i) b []).1 p).2.2=Il b.kD (Cp.free N p):=by rw[Ej,c2]
  simp only[hg];rw[zj1 hp,zig];simp only;rw[xq]
 .intro i hi;obtain⟨p,hp,pZ⟩:=aY i hi;have hg:parts.getD i Mw=p:=by rw[U0,hp];rfl
  obtain⟨c1,c2,c3⟩:=xL i;have qf:(parts.take i).length<=e.names.length:=by simp;omega
  simp only[hg];rw[(WQ _ _ _ _).2];omega
 .simp only[Rp,Od];rw[N8 (by omega)]
 .intro i hi;obtain⟨p,hp,pZ⟩:=aY i hi;have hg:parts.getD i Mw=p:=by rw[U0,hp];rfl
  have fB:(makeAll (Cp.work (Cp.free N) fns n) (Cp.free N) parts b []).2[i]?=some (Il b.kD (Cp.free N p)):=by rw[m4];simp[hp]
  have hl:((makeAll (Cp.work (Cp.free N) fns n) (Cp.free N) parts b []).2.take i).length=i:=by rw[m4];simp;omega
  simp only[hg];rw[zj1 fB,zib,hl]
 .intro i hi;obtain⟨p,hp,pZ⟩:=aY i hi;have hg:parts.getD i Mw=p:=by rw[U0,hp];rfl
  obtain⟨c2,c3⟩:=iY i (by omega);have gK:=(cQ p pZ).2;have GA:=yM (JA b.kD (Cp.free N p)) (IK N p);simp only[hg];refine⟨λx hx=>?_,by omega,?_⟩
  .rw[c2];obtain⟨g1,g2⟩:=Qk.1 hx;refine⟨?_,λhs=>absurd g2 (Uw.1 hs)⟩;by_cases fT:x∈texts e.names
   .exact Vq hf.dp.Nf.nm fT
   .have ak:=hf.dp.free;rw[k1]at ak;simp only[hk]at ak;simp at ak;exact(hf.nm x (by rw[ak];exact No.2 (.inl (Pu.2 ⟨Sr.2 (.inr ⟨p,pZ,g1⟩),fT⟩)))).1
  .rw[c2];omega
theorem zrB(hW:Nw M N n)(hn:n+1<=N){bv:Value}{q:Bs}{pvs:List Value}(h:BS Z w cb bb rv sv kv fns q)(hk:e.kind=7)(k1:e.kids=d::parts)(k3:parts.length=e.names.length)(k4:pvs.length=e.names.length)(k5:Row Z w 312 3 pv e.names.length (Ob e.names pvs))(k6:∀(i:Nat)(bv:Value)(p:Ex),pvs[i]?=some bv->parts[i]?=some p->qU Z w n bv p)(k7:qU Z w n bv d)(hf:Fit M N fns q e):
  Calls prog 94 #[.pointer (some ⟨bb,0,none⟩),.agg #[.bool false,pv,bv],.int .i64 0] w λr w'=>r=.returned (.tuple #[])/\ES Z w cb bb rv sv kv fns (Qb (Cp.work (Cp.free N) fns n) (Cp.free N) fns e q) w':=by
 obtain⟨pp,pn,pc,rfl⟩:=Jk k5;obtain⟨bt,bx,rfl⟩:=JQ k7;have aX:=Oa M N fns n;have oW:=ztr aX (.inl hk) k1 k3 hf;have Et:=oW.prod;have hw:=hf.wt;have hm:=hf.mm;have aN:=hf.cl;have aK:=hf.sl;have bZ:=hf.fl;have dj:=hf.dp.wt;rw[k1]at dj;simp only[Ki,MW]at dj;have mQ:(M+8)*(Cp.wt N d+(parts.map (Cp.wt N)).sum+e.names.length+1)<=(M+8)*Cp.wt N e:=Pr _ (by omega);rw[OP,OP,OP]at mQ;have ev:e.names.length<=(M+8)*e.names.length:=VR _ (by omega);have cQ:∀x∈parts,Dp N x/\Cp.wt N x<=M:=λx hx=>⟨hf.dp.Nn (by simp[k1,hx]),by have:=QR (f:=Cp.wt N) hx;omega⟩
 have bp:0<e.names.length:=Qw.2 (hf.dp.Nf.k7 (.inl hk)).1;rw[UF k1];have IU:Oz (Cp.work (Cp.free N) fns n) (Cp.free N) fns e parts q=⟨(parts.foldl (Mf (Cp.work (Cp.free N) fns n) (Cp.free N) fns) q).blocks,Go.splice (parts.foldl (Mf (Cp.work (Cp.free N) fns n) (Cp.free N) fns) q).kD q.kD.length (texts e.names),(parts.foldl (Mf (Cp.work (Cp.free N) fns n) (Cp.free N) fns) q).code⟩:=by unfold Oz;rw[qj]
 refine zrA hW h k7 (λZ1 W hZ fW aA=>?_) oW (by omega);rw[IU];have x7:(parts.foldl (Mf (Cp.work (Cp.free N) fns n) (Cp.free N) fns) q).kD.length=q.kD.length+e.names.length:=by rw[(Tn aX fns parts q cQ).2.1];simp[k3]
 refine zvb (n:=n) (parts:=parts) (pvs:=pvs) (l:=e.names) rfl aA k3 k4 (k5.Ku fW (by simp) (λk _ x=>hZ k x)) (λi bv p hi hp=>(k6 i bv p hi hp).Ku fW (by simp) (λk _ x=>hZ k x)) ?_ bp (by omega) x7 (by omega);intro i e' Z2 W2 bh bf cA v lZ aw cg;have fO:=ML lZ;have dY:=zqW (Cp.wt N) lZ;have xB:(parts.take i).length<=e.names.length:=by simp;omega
 have jo:(M+8)*Cp.wt N e'<=(M+8)*(parts.map (Cp.wt N)).sum:=Pr _ (by omega);have sH:(M+1)*(parts.take i).length<=(M+8)*e.names.length:=Wn (by omega) xB;obtain⟨c1,c2,c3⟩:=Tn aX fns (parts.take i) q (λx hx=>cQ x (XK hx));refine zwT hW hn aw cg (hf.part (cQ e' fO).1 (by omega) (λx hx=>?_) (by omega) (by rw[c2,IJ,Q3];omega) (by omega));have ak:=hf.dp.free;rw[k1]at ak;simp only[hk]at ak;simp at ak;obtain⟨g1,g2⟩:=hf.nm x (by rw[ak];exact No.2 (.inl (Sr.2 (.inr ⟨e',fO,hx⟩))))
 refine⟨g1,?_⟩;rw[c2];rcases g2 with g2|g2
 .exact .inl (by simp[g2])
 .exact .inr g2
theorem Cp.YG(hk:e.kind=7\/e.kind=8)(q:Cp.Bs):Cp.work (Cp.free N) fns (n+1) e 0 q=Cp.Qb (Cp.work (Cp.free N) fns n) (Cp.free N) fns e q:=by rw[Cp.work,qj,qj,qj,nB hk,nB rfl]
variable {v:Value}
theorem znf(hW:Nw M N n)(hn:n+1<=N){below:Nat}{q:Bs}(h:BS Z w cb bb rv sv kv fns q)(hk:e.kind=7\/e.kind=8)(hr:qU Z w (n+1) v e)(hf:Fit M N fns q e)(hb:below+(M+8)*Cp.wt N e<=1000000000):
  Calls prog 54 #[.pointer (some ⟨bb,0,none⟩),v,.int .i64 below] w λr w'=>r=.returned (.tuple #[])/\ES Z w cb bb rv sv kv fns (Cp.work (Cp.free N) fns (n+1) e below q) w':=by
 have hz:Zo M N (n+1) e:=by
  intro Z w cb bb rv sv kv v fns q h hr hf;rw[YG hk];rcases hr with⟨fy,rfl⟩|⟨fy,rfl⟩|⟨fy,rfl⟩|⟨fy,bf,bv,b,k1,rfl,k3,k4⟩|⟨fy,u1,u2,d1,d2,k1,rfl,k3,k4⟩|⟨fy,u1,u2,d1,d2,k1,rfl,k3,k4⟩|⟨fy,bf,bv,b,parts,pvs,k1,rfl,k3,k4,k5,k6,k7⟩|⟨fy,cv,bf,b,ag,nvs,bvs,k1,rfl,k3,k4,k5,k6,k7,k8,k9⟩
  .omega
  .omega
  .omega
  .omega
  .omega
  .omega
  .obtain⟨pp,pn,pc,rfl⟩:=Jk k5;obtain⟨bt,bx,rfl⟩:=JQ k7;refine zq0 (below:=0) (λW fW=>?_);by_cases h8:e.kind=8
   .rw[show(e.kind == 8)=true by simp[h8]];exact zvP hW hn (h.qR fW) h8 k1 k3 k4 (mq k5 fW) (λi bv p hi hp=>(k6 i bv p hi hp).qR fW) (k7.qR fW) hf
   .rw[show(e.kind == 8)=false by simp[h8]];exact zrB hW hn (h.qR fW) (by omega) k1 k3 k4 (mq k5 fW) (λi bv p hi hp=>(k6 i bv p hi hp).qR fW) (k7.qR fW) hf
  .omega
 by_cases kf:below=0
 .subst kf;exact hz h hr hf
 .have hw:=hf.wt;have hm:=hf.mm;have aN:=hf.cl;have aK:=hf.sl;have cV:=hf.bl;have bZ:=hf.fl;have aL:=hf.len;have hp:=hf.dp.pos;have hM:M+8<=(M+8)*Cp.wt N e:=VQ _ hp;have hle:=yM (JA q.kD (Cp.free N e)) (IK N e);have Fi:=zex fns q (Il q.kD (Cp.free N e));have he:Cp.work (Cp.free N) fns (n+1) e below q=Bs.ends ⟨(Cp.work (Cp.free N) fns (n+1) e 0 ⟨q.blocks,(Il q.kD (Cp.free N e)).reverse,[]⟩).blocks++[((Il q.kD (Cp.free N e)).reverse.length,(Cp.work (Cp.free N) fns (n+1) e 0 ⟨q.blocks,(Il q.kD (Cp.free N e)).reverse,[]⟩).code)],(q.J7 fns (Il q.kD (Cp.free N e))).kD,(q.J7 fns (Il q.kD (Cp.free N e))).code⟩ (below+(Il q.kD (Cp.free N e)).length) (.jump (Cp.work (Cp.free N) fns (n+1) e 0 ⟨q.blocks,(Il q.kD (Cp.free N e)).reverse,[]⟩).blocks.length):=by
   rw[YG hk];rw[Cp.work,qj,qj,qj,nB hk,pL kf];simp only[Bs.NP];rw[Fi]
  rw[he];have hc:=(Oa M N fns (n+1) e 0 ⟨q.blocks,(Il q.kD (Cp.free N e)).reverse,[]⟩ hf.dp hf.wt).2.2;simp only at hc;have fQ:=hr;rcases hr with⟨fy,rfl⟩|⟨fy,rfl⟩|⟨fy,rfl⟩|⟨fy,bf,bv,b,k1,rfl,k3,k4⟩|⟨fy,u1,u2,d1,d2,k1,rfl,k3,k4⟩|⟨fy,u1,u2,d1,d2,k1,rfl,k3,k4⟩|⟨fy,bf,bv,b,parts,pvs,k1,rfl,k3,k4,k5,k6,k7⟩|⟨fy,cv,bf,b,ag,nvs,bvs,k1,rfl,k3,k4,k5,k6,k7,k8,k9⟩
  .omega
  .omega
  .omega
  .omega
  .omega
  .omega
  .obtain⟨pp,pn,pc,rfl⟩:=Jk k5;obtain⟨bt,bx,rfl⟩:=JQ k7;refine zq0 (λW fW=>?_);refine zvO (h.qR fW) (fQ.qR fW) (λW2 wH=>Xn N (((fQ.qR fW).qR wH).le hn) (by omega)) rfl (by omega) (by omega) (by omega) (by omega) (hf.IU q.kD) (by omega) (by omega) (λZ1 W1 bh nv aE dd af=>?_);exact ze3 hz aE dd af hf.Wj (by omega) (by omega)
  .omega
theorem zo0(M:Nat){N:Nat}(hN:N<=100000):∀n,n<=N->Nw M N n
 |0,_=>λ_ _ _ _ _ _ _ _ _ _ _ _ _ hr _ _=>hr.elim
 |n+1,hn=>by
  have hW:=zo0 M hN n (by omega);intro Z w cb bb rv sv kv v fns q e below h hr hf hb;have fQ:=hr;rcases hr with⟨hk,_⟩|⟨hk,_⟩|⟨hk,_⟩|⟨hk,_⟩|⟨hk,u1,u2,d1,d2,k1,rfl,k3,k4⟩|⟨hk,u1,u2,d1,d2,k1,rfl,k3,k4⟩|⟨hk,_⟩|⟨hk,cv,bf,b,ag,nvs,bvs,k1,rfl,k3,k4,k5,k6,k7,k8,k9⟩
  .exact Vl hW hn h fQ hf hb (by omega)
  .exact Vl hW hn h fQ hf hb (by omega)
  .exact Vl hW hn h fQ hf hb (by omega)
  .exact Vl hW hn h fQ hf hb (by omega)
  .exact zkp hN hW hn h hk k1 k3 k4 hf hb
  .exact zp8 hW hn h hk k1 k3 k4 hf hb
  .exact znf hW hn h hk fQ hf hb
  .exact zkq hW hn h hk k1 k3 k4 k5 k6 k7 k8 k9 hf hb
end
section
namespace Cp
def VH:Ds->Prop
 |.choose nA=>nA.length<=5000
 |_=>True
def VG (b:Nat × List Ds):Prop:=b.1<=20000/\b.2≠[]/\b.2.length<=1000000000/\∀i∈b.2,VH i
def Ext (q q':Bs):Prop:=(∃bl,q'.blocks=q.blocks++bl/\∀b∈bl,VG b)/\∃c,q'.code=q.code++c/\∀i∈c,VH i
theorem Ext.refl(q:Bs):Ext q q:=⟨⟨[],by simp,by simp⟩,[],by simp,by simp⟩
theorem Ext.trans{a b c:Bs}(h:Ext a b)(k:Ext b c):Ext a c:=by
 obtain⟨⟨l1,e1,g1⟩,c1,d1,i1⟩:=h;obtain⟨⟨l2,e2,g2⟩,c2,d2,i2⟩:=k;refine⟨⟨l1++l2,by rw[e2,e1,Np],λx hx=>?_⟩,c1++c2,by rw[d2,d1,Np],λx hx=>?_⟩
 .rcases Ni.1 hx with hx|hx
  .exact g1 x hx
  .exact g2 x hx
 .rcases Ni.1 hx with hx|hx
  .exact i1 x hx
  .exact i2 x hx
theorem Ext.code{a b:Bs}(h:Ext a b):a.code.length<=b.code.length:=by obtain⟨_,c,d,_⟩:=h;rw[d];simp
theorem Ext.Zu{a a' b:Bs}(h:Ext a b)(h1:a'.blocks=a.blocks)(h2:a'.code=a.code):Ext a' b:=by obtain⟨⟨l1,e1,g1⟩,c1,d1,i1⟩:=h;exact⟨⟨l1,by rw[e1,h1],g1⟩,c1,by rw[d1,h2],i1⟩
theorem Ext.zyo{a b b':Bs}(h:Ext a b)(h1:b'.blocks=b.blocks)(h2:b'.code=b.code):Ext a b':=by obtain⟨⟨l1,e1,g1⟩,c1,d1,i1⟩:=h;exact⟨⟨l1,by rw[h1,e1],g1⟩,c1,by rw[h2,d1],i1⟩
theorem RM(q:Bs)(i:Ds)(hi:VH i):Ext q (q.push i):=⟨⟨[],by simp[Bs.push],by simp⟩,[i],rfl,by simpa using hi⟩
theorem Tk(q:Bs)(i:Ds)(hi:VH i):Ext q (q.write i):=⟨⟨[],by simp[Bs.write],by simp⟩,[i],rfl,by simpa using hi⟩
theorem zs1(fns:List Nm)(q:Bs)(x:Nm):Ext q (q.use fns x):=by
 unfold Bs.use;split
 .exact RM _ _ trivial
 .exact RM _ _ trivial
theorem zqs(fns:List Nm):∀(l:List Nm)(q:Bs),Ext q (l.foldl (Bs.use fns) q)
 |[],q=>Ext.refl q
 |x::l,q=>(zs1 fns q x).trans (zqs fns l _)
theorem Yv(fns:List Nm)(q:Bs)(l:List Nm):Ext q (q.J7 fns l):=zqs fns _ q
theorem zjd(fns:List Nm)(q:Bs)(l:List Nm):Ext q ((q.J7 fns l).drop l.length):=(Yv fns q l).zyo rfl rfl
theorem zmg{b:Bs}{sl:List Nm}{wr:Bs->Bs}(h:Ext ⟨b.blocks,sl,[]⟩ (wr ⟨b.blocks,sl,[]⟩))(aH:(wr ⟨b.blocks,sl,[]⟩).code≠[])(hl:(wr ⟨b.blocks,sl,[]⟩).code.length<=1000000000)(hs:sl.length<=20000):Ext b (b.NP sl wr).1:=by
 obtain⟨⟨l1,e1,g1⟩,c,d1,i1⟩:=h;refine⟨⟨l1++[(sl.length,(wr ⟨b.blocks,sl,[]⟩).code)],?_,λx hx=>?_⟩,[],by simp[Bs.NP],by simp⟩
 .simp only[Bs.NP];rw[e1,Np]
 .rcases Ni.1 hx with hx|hx
  .exact g1 x hx
  .rw[NA.1 hx];refine⟨hs,aH,hl,λi hi=>?_⟩;simp only at hi;rw[d1,MQ]at hi;exact i1 i hi
theorem zqi{wk:Ex->Nat->Bs->Bs}(names:List Nm):∀(az:List (Nat × List Tok))(ds:List Ex)(b:Bs)(l:List (Nat × Nat × Nat)),(armsOf wk names az ds b l).2.length<=l.length+az.length
 |[],ds,b,l=>by simp[armsOf]
 |_::_,[],b,l=>by simp[armsOf]
 |a::az,d::ds,b,l=>by rw[armsOf];have:=zqi (wk:=wk) names az ds (b.NP (texts a.2++names).reverse (wk d 0)).1 (l++[(a.1,a.2.length,(b.NP (texts a.2++names).reverse (wk d 0)).2)]);simp only[IJ,Ng]at this;simp only[Kh];omega
def Ts (M N n:Nat) (wk:Ex->Nat->Bs->Bs):Prop:=∀e below q,Dp n e->Dp N e->wt N e<=M->Ext q (wk e below q)/\q.code.length<(wk e below q).code.length
variable {M N:Nat}{e:Ex}
theorem YZ(hM:M<=5000)(hw:wt N e<=M):(M+8)*wt N e<=25040000:=yM (Wn (show M+8<=5008 by omega) (show wt N e<=5000 by omega)) (by decide)
variable {n:Nat}{wk:Ex->Nat->Bs->Bs}
theorem zmk(hM:M<=5000)(hx:Ts M N n wk)(hw:P7 M N wk){b:Bs}{sl:List Nm}{below:Nat}(h1:Dp n e)(h2:Dp N e)(h3:wt N e<=M)(hs:sl.length<=20000):Ext b (b.NP sl (wk e below)).1:=by obtain⟨a1,a2⟩:=hx e below ⟨b.blocks,sl,[]⟩ h1 h2 h3;have a3:=(hw e below ⟨b.blocks,sl,[]⟩ h2 h3).1;have a4:=YZ hM h3;simp only[My,On]at a2 a3;exact zmg a1 (λe0=>by rw[e0]at a2;simp at a2) (by omega) hs
theorem UA(h:Dp N e):e.names.length+1<=wt N e:=by rw[h.wt];omega
theorem zgm(hM:M<=5000)(hx:Ts M N n wk)(hw:P7 M N wk)(b:Bs)(h1:Dp n e\/(e.kind=3\/e.kind=4)/\Dp (n+1) e)(h2:Dp N e)(h3:wt N e<=M):Ext b (Mp wk (free N) b e).1:=by
 have hh:=yM (RH b.kD (free N e)) (Ra N e);have ev:=UA h2;unfold Mp;by_cases h4:e.kind=4
 .obtain⟨_,d,hk⟩:=h2.Nf.k4 h4;have EM:=h2.Qq (k:=d) (by simp[hk]);simp only[h4,kP,hk];refine zmk hM hx hw ?_ (h2.Nn (by simp[hk])) (by omega) (by simp[texts];omega);rcases h1 with h1|⟨_,h1⟩
  .exact h1.Nn (by simp[hk])
  .exact h1.2 d (by simp[hk])
 .by_cases zC:e.kind=3
  .simp only[zC,kP];have:=h2.Nf.ar;exact zmg (sl:=List.replicate e.arity []) (wr:=λq=>(q.write (.pack e.tag e.arity)).write .enter) ((Tk _ (.pack e.tag e.arity) trivial).trans (Tk _ .enter trivial)) (by simp[Bs.write]) (by simp[Bs.write]) (by simp;omega)
  .simp only[h4,zC,nt];rcases h1 with h1|⟨h,_⟩
   .exact zmk hM hx hw h1 h2 h3 (by simp;omega)
   .omega
theorem zmi(hM:M<=5000)(hx:Ts M N n wk)(hw:P7 M N wk)(fns:List Nm)(b:Bs)(h1:Dp n e\/e.kind<=4/\Dp (n+1) e)(h2:Dp N e)(h3:wt N e<=M):Ext b (Mf wk (free N) fns b e):=by
 unfold Mf;split
 .exact zs1 fns b e.tok.s
 .split
  .exact RM _ _ trivial
  .split
   .exact RM _ _ trivial
   .next k2 k1 k3=>
    have fN:=h2.Nf.lo;have hc:=zgm hM hx hw b (e:=e) (by
     rcases h1 with h1|⟨h,h1⟩
     .exact .inl h1
     .exact .inr ⟨by omega,h1⟩) h2 h3
    exact(hc.trans (zjd fns _ _)).trans (RM _ _ (by exact trivial))
theorem Xa{M N n:Nat}{wk:Ex->Nat->Bs->Bs}(hM:M<=5000)(hx:Ts M N n wk)(hw:P7 M N wk)(fns:List Nm):∀(l:List Ex)(b:Bs),(∀x∈l,Dp n x/\Dp N x/\wt N x<=M)->Ext b (l.foldl (Mf wk (free N) fns) b)
 |[],b,_=>Ext.refl b
 |x::l,b,h=>by obtain⟨h1,h2,h3⟩:=h x (by simp);rw[NV];exact(zmi hM hx hw fns b (.inl h1) h2 h3).trans (Xa hM hx hw fns l _ (λy hy=>h y (by simp[hy])))
theorem zmj{M N n:Nat}{wk:Ex->Nat->Bs->Bs}(hM:M<=5000)(hx:Ts M N n wk)(hw:P7 M N wk):∀(l:List Ex)(b:Bs)(a:List (List Nm)),(∀x∈l,Dp n x/\Dp N x/\wt N x<=M)->Ext b (makeAll wk (free N) l b a).1
 |[],b,_,_=>Ext.refl b
 |x::l,b,a,h=>by obtain⟨h1,h2,h3⟩:=h x (by simp);rw[makeAll];exact((zgm hM hx hw b (.inl h1) h2 h3).trans (Tk _ _ (by exact trivial))).trans (zmj hM hx hw l _ _ (λy hy=>h y (by simp[hy])))
theorem zmh(fns:List Nm):∀(l:List (List Nm))(i:Nat)(b:Bs),Ext b (Od fns i l b)
 |[],_,b=>Ext.refl b
 |x::l,i,b=>by rw[Od];exact((zjd fns b x).trans (Tk _ _ (by exact trivial))).trans (zmh fns l (i+1) _)
theorem YN{M N n:Nat}{wk:Ex->Nat->Bs->Bs}(hM:M<=5000)(hx:Ts M N n wk)(hw:P7 M N wk)(names:List Nm)(ev:names.length<=10000):∀(az:List (Nat × List Tok))(ds:List Ex)(b:Bs)(l:List (Nat × Nat × Nat)),(∀a∈az,a.2.length<=5000)->(∀x∈ds,Dp n x/\Dp N x/\wt N x<=M)->Ext b (armsOf wk names az ds b l).1
 |[],ds,b,l,_,_=>by simp only[armsOf];exact Ext.refl b
 |_::_,[],b,l,_,_=>by simp only[armsOf];exact Ext.refl b
 |a::az,d::ds,b,l,ha,h=>by obtain⟨h1,h2,h3⟩:=h d (by simp);have aU:=ha a (by simp);rw[armsOf];exact(zmk hM hx hw h1 h2 h3 (by simp[texts];omega)).trans (YN hM hx hw names ev az ds _ _ (λy hy=>ha y (by simp[hy])) (λy hy=>h y (by simp[hy])))
theorem znP(hM:M<=5000)(hx:Ts M N n wk)(hw:P7 M N wk)(fns:List Nm){ps:List Ex}(b:Bs)(h:∀x∈ps,Dp n x/\Dp N x/\wt N x<=M):Ext b (Oz wk (free N) fns e ps b):=by
 unfold Oz;split
 .have h1:=zmj hM hx hw ps { b with kD:=b.kD++texts e.names } [] h;exact(h1.Zu (a':=b) rfl rfl).trans (zmh fns _ _ _)
 .exact(Xa hM hx hw fns ps b h).zyo rfl rfl
theorem zsw(h:Dp N e):∀a∈e.nA,a.2.length<=wt N e:=λa ha=>by
 have h1:∀(l:List (Nat × List Tok)),a∈l->a.2.length<=(l.map λa=>1+a.2.length).sum:=by
  intro l
  induction l with
  |nil=>simp
  |cons x l ih=>
   intro hm;rw[Ki,MW];rcases Mz.1 hm with rfl|hm
   .omega
   .have:=ih hm;omega
 have:=h1 e.nA ha;rw[h.wt];omega
theorem zsz(h:Dp N e):e.nA.length<=wt N e:=by
 have h1:∀(l:List (Nat × List Tok)),l.length<=(l.map λa=>1+a.2.length).sum:=by
  intro l
  induction l with
  |nil=>simp
  |cons x l ih=>rw[Ki,MW,Kh];omega
 have:=h1 e.nA;rw[h.wt];omega
theorem zjV{n:Nat}:∀(m:Nat)(e f a:Ex),e.kids=[f,a]->Dp (n+1) e->Dp n (spread (m+1) e).1/\∀x∈(spread (m+1) e).2,Dp n x
 |0,e,f,a,hk,h=>by
  have h1:=h.2 f (by simp[hk]);have h2:=h.2 a (by simp[hk]);rw[spread,hk];simp only;split
  .simp[spread,h1,h2]
  .simp[h1,h2]
 |m+1,e,f,a,hk,h=>by
  have h1:=h.2 f (by simp[hk]);have h2:=h.2 a (by simp[hk]);rw[spread,hk];simp only;split
  .next hf=>
   obtain⟨g,b,aG⟩:=h1.Nf.k5 (.inl hf);obtain⟨i1,i2⟩:=zjV m f g b aG h1.succ;refine⟨i1,λx hx=>?_⟩;rcases Ni.1 hx with hx|hx
   .exact i2 x hx
   .rw[NA.1 hx];exact h2
  .simp[h1,h2]
theorem P8{M:Nat}(N:Nat)(fns:List Nm)(hM:M<=5000):∀n:Nat,Ts M N n (work (free N) fns n)
 |0=>λ_ _ _ h=>h.elim
 |n+1=>λe below q hn hd hm=>by
  have ih:=P8 N fns hM n;have hc:=Oa M N fns n;have eE:=hd.Nf;have fN:=eE.lo;have gS:=eE.hi;have a7:∀k∈e.kids,Dp n k/\Dp N k/\wt N k<=M:=λk hk=>⟨hn.2 k hk,hd.Nn hk,by have:=hd.Qq hk;omega⟩
  have hh:=yM (RH q.kD (free N e)) (Ra N e);by_cases h5:e.kind=5
  .obtain⟨f,a,hk⟩:=eE.k5 (.inl h5);rw[work];simp only[h5,kP];obtain⟨s1,s2,s3⟩:=Xe (n+1) e hd;obtain⟨s4,s5⟩:=zjV (n:=n) n e f a hk hn;generalize spread (n+1) e=s at s1 s2 s3 s4 s5|-;obtain⟨fe,es⟩:=s;simp only at s1 s2 s3 s4 s5|-;have h1:=Xa hM ih hc fns es.reverse q (λx hx=>⟨s5 x (by simpa using hx),s3 x (by simpa using hx),by have:=QR (f:=wt N) (x:=x) (l:=es) (by simpa using hx);omega⟩);obtain⟨i1,i2⟩:=ih fe (below+es.length+1) ((es.reverse.foldl (Mf (work (free N) fns n) (free N) fns) q).push (.N6 es.length)) s4 s2 (by omega);have h2:=h1.trans (RM _ (.N6 es.length) trivial);have:=h2.code;exact⟨h2.trans i1,by omega⟩
  .by_cases h6:e.kind=6
   .obtain⟨l,r,hk⟩:=eE.k5 (.inr h6);rw[zh3 fns n below q h6 hk];obtain⟨l1,l2,l3⟩:=a7 l (by simp[hk]);obtain⟨r1,r2,r3⟩:=a7 r (by simp[hk]);have ev:=yM (RH q.kD (free N r)) (Ra N r);generalize Il q.kD (free N r)=names at ev|-;obtain⟨i1,i2⟩:=ih r 2 (OJ q names e) r1 r2 r3;have j1:=(hc r 2 (OJ q names e) r2 r3).1;have j2:=YZ hM r3;have bJ:(OJ q names e).code.length=3:=by simp[OJ]
    rw[bJ]at i2 j1;generalize work (free N) fns n r 2 (OJ q names e)=R at i1 i2 j1|-;have h1:Ext q ⟨R.blocks++[(names.length+1,R.code)],q.kD,q.code⟩:=by
     obtain⟨⟨bl,e1,g1⟩,cc,d1,o1⟩:=i1;refine⟨⟨(2,[.comp ⟨e.tok.s.toArray⟩,.enter])::bl++[(names.length+1,R.code)],?_,λx hx=>?_⟩,[],by simp,by simp⟩
     .simp only;rw[e1];simp[OJ]
     .rcases Ni.1 hx with hx|hx
      .rcases Mz.1 hx with rfl|hx
       .exact⟨by simp,by simp,by simp,by simp[VH]⟩
       .exact g1 x hx
      .rw[NA.1 hx];refine⟨by simp only;omega,λe0=>by simp only at e0;rw[e0]at i2;simp at i2,by simp only;omega,λi hi=>?_⟩;simp only at hi;rw[d1]at hi;rcases Ni.1 hi with hi|hi
       .simp[OJ]at hi;rcases hi with rfl|rfl|rfl<;>trivial
       .exact o1 i hi
    have h2:=(h1.trans (Yv fns _ names)).trans (RM _ (.wait R.blocks.length) trivial);obtain⟨k1,k2⟩:=ih l (below+names.length+1) ((Bs.J7 fns ⟨R.blocks++[(names.length+1,R.code)],q.kD,q.code⟩ names).push (.wait R.blocks.length)) l1 l2 l3;have:=h2.code;exact⟨h2.trans k1,by omega⟩
   .by_cases h9:e.kind=9
    .obtain⟨aH,s,ds,hk,rY⟩:=eE.k9 h9;obtain⟨l1,l2,l3⟩:=a7 s (by simp[hk]);have dj:=hd.wt;rw[hk]at dj;simp at dj;have aU:=Ut (free N) (wt N) (Ra N) e.nA ds [];have rN:=RH q.kD (Mu (free N) e.nA ds []);simp only[My,On]at aU;obtain⟨names,iZ⟩:∃names,names=Il q.kD (Mu (free N) e.nA ds []):=⟨_,rfl⟩;rw[<-iZ]at rN;obtain⟨ao,mJ⟩:∃ao,ao=armsOf (work (free N) fns n) names e.nA ds ⟨q.blocks,([]::names).reverse,[]⟩ []:=⟨_,rfl⟩;have ea:=YN hM ih hc names (by omega) e.nA ds ⟨q.blocks,([]::names).reverse,[]⟩ [] (λa ha=>by have:=zsw hd a ha;omega) (λx hx=>a7 x (by simp[hk,hx]));have ec:=(W8 hc names e.nA ds ⟨q.blocks,([]::names).reverse,[]⟩ [] (λx hx=>(a7 x (by simp[hk,hx])).2)).2.2;rw[<-mJ]at ea ec;rw[zfk fns n below q h9 hk iZ mJ];have h1:Ext q ⟨ao.1.blocks++[(names.length+1,ao.1.code++[.choose ao.2])],q.kD,q.code⟩:=by
      obtain⟨⟨bl,e1,g1⟩,_⟩:=ea;refine⟨⟨bl++[(names.length+1,ao.1.code++[.choose ao.2])],?_,λx hx=>?_⟩,[],by simp,by simp⟩
      .simp only;rw[e1];simp
      .rcases Ni.1 hx with hx|hx
       .exact g1 x hx
       .rw[NA.1 hx,ec];refine⟨by simp only;omega,by simp,by simp,λi hi=>?_⟩;simp only[MQ,NA]at hi;rw[hi];show ao.2.length<=5000;rw[mJ];have:=zqi (wk:=work (free N) fns n) names e.nA ds ⟨q.blocks,([]::names).reverse,[]⟩ [];have:=zsz hd;simp only[My,On]at *;omega
     have h2:=(h1.trans (Yv fns _ names)).trans (RM _ (.wait ao.1.blocks.length) trivial);obtain⟨k1,k2⟩:=ih s (below+names.length+1) ((Bs.J7 fns ⟨ao.1.blocks++[(names.length+1,ao.1.code++[.choose ao.2])],q.kD,q.code⟩ names).push (.wait ao.1.blocks.length)) l1 l2 l3;have:=h2.code;exact⟨h2.trans k1,by omega⟩
    .by_cases h7:e.kind=7\/e.kind=8
     .obtain⟨aH,d,ps,hk,gK⟩:=eE.k7 h7;rw[work];simp only[h5,h6,h9,h7,nt,kP];obtain⟨l1,l2,l3⟩:=a7 d (by simp[hk]);have sQ:∀x∈ps,Dp n x/\Dp N x/\wt N x<=M:=λx hx=>a7 x (by simp[hk,hx])
      have sE:∀b:Bs,Ext b (Qb (work (free N) fns n) (free N) fns e b)/\b.code.length<(Qb (work (free N) fns n) (free N) fns e b).code.length:=λb=>by rw[UF hk];have h1:=znP hM ih hc fns (e:=e) b sQ;obtain⟨k1,k2⟩:=ih d 0 (Oz (work (free N) fns n) (free N) fns e ps b) l1 l2 l3;have:=h1.code;exact⟨h1.trans k1,by omega⟩
      split
      .exact sE q
      .obtain⟨g1,g2⟩:=sE ⟨(q.J7 fns (Il q.kD (free N e))).blocks,(Il q.kD (free N e)).reverse,[]⟩;have aN:(Qb (work (free N) fns n) (free N) fns e ⟨(q.J7 fns (Il q.kD (free N e))).blocks,(Il q.kD (free N e)).reverse,[]⟩).code.length<=1000000000:=by
        rw[UF hk];obtain⟨a1,a2,a3⟩:=WX hc fns hk gK ⟨(q.J7 fns (Il q.kD (free N e))).blocks,(Il q.kD (free N e)).reverse,[]⟩ hd hm;have d1:=(hc d 0 (Oz (work (free N) fns n) (free N) fns e ps ⟨(q.J7 fns (Il q.kD (free N e))).blocks,(Il q.kD (free N e)).reverse,[]⟩) l2 l3).1;have p1:=YZ hM l3;have ev:=UA hd;have p2:(M+8)*e.names.length<=5008*5000:=Wn (by omega) (by omega);simp only[My,On]at a3;omega
       have hA:=zmg g1 (λe0=>by rw[e0]at g2;simp at g2) aN (by simp;omega);have h2:=((Yv fns q (Il q.kD (free N e))).trans hA);have h3:=h2.code;refine⟨(h2.trans (Tk _ _ (by exact trivial))).trans (Tk _ _ (by exact trivial)),?_⟩;simp only[Bs.ends,Bs.write,IJ,Ng];omega
     .rw[work];simp only[h5,h6,h9,h7,nt];have h1:=zmi hM ih hc fns q (e:=e) (.inr ⟨by omega,hn⟩) hd hm;have:=h1.code;refine⟨(h1.trans (Tk _ _ (by exact trivial))).trans (Tk _ _ (by exact trivial)),?_⟩;simp only[Bs.ends,Bs.write,IJ,Ng];omega
end Cp
end
section
open Go.RowKit Go.Shelf
variable {w:World}{size n g cap:Nat}{xs:List Value}
theorem ztJ{e:TypeId}(h:w.ownsRow 0 e size (.slice (some ⟨g,0,none⟩) n cap) n xs)(j:Nat)(u:Value)(_hj:j<n*size:=by omega):(w.setCell ⟨g,j,none⟩ u).ownsRow 0 e size (.slice (some ⟨g,0,none⟩) n cap) n (xs.set j u):=by
 obtain⟨h1,h2⟩:=h;refine⟨by rw[MH];exact h1,?_⟩;rcases h2 with⟨h2,_⟩|⟨g',dU,cur,hv,hg,hb,r1,r2,r3,r4⟩
 .cases h2
 .cases hv;refine .inr ⟨g,cap,cur.set! j u,rfl,hg,?_,r1,r2,by simp[r3],?_⟩
  .have hl:g<w.heap.size:=(Nz.1 hb).1;simp[World.setCell,I5,hb]
  .rw[<-r4];simp[List.take_set]
theorem zh6:∀(l:List (Nat × List Ds))(vs:List Value)(i:Nat)(b:Nat × List Ds)(v:Value),vs.length=l.length->((M4 l vs).set (i*2) (.int .i64 b.1)).set (i*2+1) v=M4 (l.set i b) (vs.set i v)
 |[],[],_,_,_,_=>by simp[M4]
 |x::l,y::vs,0,b,v,_=>by simp[M4]
 |x::l,y::vs,i+1,b,v,h=>by simp only[M4,Nh];rw[show(i+1)*2=i*2+2 by omega,show i*2+2+1=i*2+1+2 by omega];rw[MP,MP,MQ,Nh,Nh,Nh,Nh,zh6 l vs i b v (by simpa using h)];rfl
 |[],_::_,_,_,_,h=>by simp at h
 |_::_,[],_,_,_,h=>by simp at h
variable {Z:Nat->Prop}{cb bb i m:Nat}{sv kv:Value}{fns:List Cp.Nm}
theorem CS.put{W:World}{q:Bs}(h:BS Z w cb bb (.slice (some ⟨g,0,none⟩) q.blocks.length cap) sv kv fns q)(f:Fr (λ_=>False) w W)(hi:i<q.blocks.length):
  CS (λk=>Z k\/kv.ownBlock=some k) ((W.setCell ⟨g,i*2,none⟩ (.int .i64 m)).setCell ⟨g,i*2+1,none⟩ kv) cb (.slice (some ⟨g,0,none⟩) q.blocks.length cap) fns (q.blocks.set i (m,q.code)):=by
 have hW:=h.qR f;obtain⟨fv,bH,bT⟩:=hW.OA;obtain⟨cP,dd,cg,jc⟩:=hW.OL;obtain⟨vs,cK,aG⟩:=hW.Pz;have so:g≠cb:=λe=>hW.rc.1 (by rw[e];rfl)
 have EH:kv.ownBlock≠some g:=hW.rk g rfl;have nS:=hW.Pt;have f2:Fr (λk=>k=g) W ((W.setCell ⟨g,i*2,none⟩ (.int .i64 m)).setCell ⟨g,i*2+1,none⟩ kv):=((eU (λk=>k=g) _).set _ _ (.inl rfl)).set _ _ (.inl rfl);have hz:∀k,k<W.heap.size->Z k->¬k=g:=λk _ hk e=>hW.zk k hk (.inr (.inr (.inl (by rw[e];rfl))))
 have jF:QV (λk=>Z k\/kv.ownBlock=some k) ((W.setCell ⟨g,i*2,none⟩ (.int .i64 m)).setCell ⟨g,i*2+1,none⟩ kv) kv q.code:=
  ⟨vs,⟨f2.gb cK (λk hk e=>EH (by rw[<-e];exact hk)),λk hk=>.inr hk⟩,aG.Ku f2 hz (λ_ _ x=>.inl x)⟩
 refine⟨⟨fv,gd bH f2 (λe=>so e.symm),bT.Ku f2 hz (λ_ _ x=>.inl x)⟩,⟨cP.set i kv,by simp[dd],?_,?_⟩,?_,?_,?_⟩
 .rw[<-zh6 q.blocks cP i (m,q.code) kv dd,MH];exact ztJ (ztJ cg (i*2) _) (i*2+1) _
 .intro j b cv hj hv;rw[Kw]at hj hv;by_cases ki:i=j
  .subst ki;rw[nB rfl,nB hi]at hj;rw[nB rfl,Ji]at hv;cases hj;cases hv;exact jF
  .rw[pL ki]at hj hv;exact(jc j b cv hj hv).Ku f2 hz (λ_ _ x=>.inl x)
 .rintro k(hk|hk)
  .exact Kl (hW.Ny k hk) f2.size
  .exact Kl (nS k hk) f2.size
 .rintro k(hk|hk)
  .exact⟨λe=>hW.zk k hk (.inl e),λe=>hW.zk k hk (.inr (.inr (.inl e)))⟩
  .exact⟨λe=>hW.kc.1 (e▸hk),λe=>hW.rk k e hk⟩
 .exact hW.rc.1
theorem V6(n:Nat):madeCells (Value.cells (.agg #[.int .i64 0,.slice none 0 0])) (n*2)=(M4 (List.replicate n (0,[])) (List.replicate n (.slice none 0 0))).toArray:=by
 have hl:∀n:Nat,(M4 (List.replicate n (0,([]:List Ds))) (List.replicate n (.slice none 0 0))).length=2*n/\∀i,i<n->(M4 (List.replicate n (0,([]:List Ds))) (List.replicate n (.slice none 0 0)))[2*i]?=some (.int .i64 0)/\(M4 (List.replicate n (0,([]:List Ds))) (List.replicate n (.slice none 0 0)))[2*i+1]?=some (.slice none 0 0):=by
  intro n
  induction n with
  |zero=>simp[M4]
  |succ n ih=>
   simp only[VO,M4];refine⟨by simp[ih.1];omega,λi hi=>?_⟩;cases i with
   |zero=>simp
   |succ i=>rw[show 2*(i+1)=2*i+1+1 by omega];simp only[MP,MQ,R7];exact ih.2 i (by omega)
 obtain⟨h1,h2⟩:=hl n;apply Array.ext
 .simp only[O3,h1];simp[madeCells,Value.cells];omega
 .intro i GB lg;simp only[O3,h1]at lg;have e1:=h2 (i/2) (by omega);rcases Nat.mod_two_eq_zero_or_one i with hm|hm
  .have e2:=e1.1;rw[show 2*(i/2)=i by omega]at e2;have:(M4 (List.replicate n (0,([]:List Ds))) (List.replicate n (.slice none 0 0))).toArray[i]'(by simp[h1];omega)=.int .i64 0:=by
    rw[List.getElem_toArray];exact(Dq.1 e2).2
   rw[this];simp[madeCells,Value.cells,hm]
  .have e2:=e1.2;rw[show 2*(i/2)+1=i by omega]at e2;have:(M4 (List.replicate n (0,([]:List Ds))) (List.replicate n (.slice none 0 0))).toArray[i]'(by simp[h1];omega)=.slice none 0 0:=by
    rw[List.getElem_toArray];exact(Dq.1 e2).2
   rw[this];simp[madeCells,Value.cells,hm]
theorem zty(hn:n<=1000000)(W:World):(Instr.makeSlice 64 (.int .i64 (n:Int)) (.int .i64 (n:Int))).run prog W=.ok (.slice (some ⟨W.heap.size,0,none⟩) n n) (W.alloc (.cells (M4 (List.replicate n (0,[])) (List.replicate n (.slice none 0 0))).toArray 96)):=by obtain⟨i,hi,he⟩:=M9.1 znT;simp only[O2]at he;obtain⟨h1,h2,h3⟩:=he;have:=run_make (P:=prog) W 64 96 i (.agg #[.int .i64 0,.slice none 0 0]) underlying64 hi h1 .i64 .i64 n n (by omega) (by omega) (by rw[h3];omega) (by omega);rw[this,h2,MO,V6]
end
section
open Go.RowKit Go.Shelf
attribute [local go_sem ↓] Go.wp_at_zero Go.wp_at_succ
structure PL (Z1:Nat->Prop) (w1 wr:World) (cb:Nat) (bh:Value) (fns:List Cp.Nm) (bl:List (Nat × List Ds)) (Zi:Nat->Prop) (gX:Value):Prop where
 z:∀j,j<w1.heap.size->(Zi j↔Z1 j)
 c:CS Zi wr cb gX fns bl
 f:Fr (λk=>k=cb\/bh.ownBlock=some k) w1 wr
 n:Mv w1 bh gX
variable {Z1 Zi:Nat->Prop}{w1 wr:World}{cb n size:Nat}{bh gX v:Value}{fns:List Cp.Nm}{bl:List (Nat × List Ds)}{xs:List Value}
theorem PL.row{t:TypeId}{wh:List (Nat × List Ds)}(h:PL Z1 w1 wr cb bh fns bl Zi gX)(h1:CS Z1 w1 cb bh fns wh)(hr:Row Z1 w1 t size v n xs):Row Zi wr t size v n xs:=
 hr.Ku h.f (λk _ hz e=>by rcases e with e|e;exact(h1.zk k hz).1 e;exact(h1.zk k hz).2 e) (λk hk hz=>(h.z k hk).2 hz)
variable {e:Ex}
theorem PL.rep{wh:List (Nat × List Ds)}(h:PL Z1 w1 wr cb bh fns bl Zi gX)(h1:CS Z1 w1 cb bh fns wh)(hr:qU Z1 w1 n v e):qU Zi wr n v e:=
 hr.Ku h.f (λk _ hz e=>by rcases e with e|e;exact(h1.zk k hz).1 e;exact(h1.zk k hz).2 e) (λk hk hz=>(h.z k hk).2 hz)
theorem PL.drew{Z1 Zi:Nat->Prop}{w1 wr:World}{cb:Nat}{bh gX:Value}{fns:List Cp.Nm}{bl:List (Nat × List Ds)}(h:PL Z1 w1 wr cb bh fns bl Zi gX):PL Z1 w1 wr.drew cb bh fns bl Zi gX:=
 ⟨h.z,h.c.qR (eU _ _).drew,h.f.drew,h.n⟩
variable {bb i m g cap:Nat}{sv:Value}
theorem PL.next{Z':Nat->Prop}{w2 w3 w4:World}{sv' bG:Value}{q:Bs}(h:PL Z1 w1 wr cb bh fns bl Zi gX)(f2:Fr (λ_=>False) wr w2)(bA:∀k,sv.ownBlock=some k->wr.heap.size<=k)(z3:∀k,k<w2.heap.size->(Z' k↔Zi k))(b3:BS Z' w3 cb bb (.slice (some ⟨g,0,none⟩) q.blocks.length cap) sv' bG fns q)(f3:Fr (λk=>k=cb\/gX.ownBlock=some k\/sv.ownBlock=some k) w2 w3)(n3:Mv w2 gX (.slice (some ⟨g,0,none⟩) q.blocks.length cap))(k3:∀k,bG.ownBlock=some k->w2.heap.size<=k)(f4:Fr (λ_=>False) w3 w4)(hi:i<q.blocks.length):
  PL Z1 w1 ((w4.setCell ⟨g,i*2,none⟩ (.int .i64 m)).setCell ⟨g,i*2+1,none⟩ bG) cb bh fns (q.blocks.set i (m,q.code)) (λk=>Z' k\/bG.ownBlock=some k) (.slice (some ⟨g,0,none⟩) q.blocks.length cap):=by
 have s1:=h.f.size;have s2:=f2.size;have s3:=f3.size;have s4:=f4.size;have hn:Mv w1 bh (.slice (some ⟨g,0,none⟩) q.blocks.length cap):=h.n.trans (kH (kq wr gX) n3 s2) s1;refine⟨λj hj=>?_,CS.put b3 f4 hi,?_,hn⟩
 .have:=z3 j (by omega);have h2:=h.z j hj;constructor
  .rintro(e|e)
   .exact h2.1 (this.1 e)
   .have:=k3 j e;omega
  .exactλe=>.inl (this.2 (h2.2 e))
 .have hg:(g=cb\/bh.ownBlock=some g)\/w1.heap.size<=g:=by
   rcases hn g rfl with e|e
   .exact .inl (.inr e)
   .exact .inr e
  refine IL (IL ?_ _ _ hg) _ _ hg;refine⟨f4.os.trans (f3.os.trans (f2.os.trans h.f.os)),f4.tape.trans (f3.tape.trans (f2.tape.trans h.f.tape)),f4.output.trans (f3.output.trans (f2.output.trans h.f.output)),by omega,λj hj hn=>?_⟩;have e3:¬(j=cb\/gX.ownBlock=some j\/sv.ownBlock=some j):=by
   rintro(e|e|e)
   .exact hn (.inl e)
   .rcases h.n j e with e|e
    .exact hn (.inr e)
    .omega
   .have:=bA j e;omega
  rw[f4.block j (by omega) (by simp),f3.block j (by omega) e3,f2.block j (by omega) (by simp),h.f.block j hj hn]
theorem zee(n:Nat):(M4 (List.replicate n (0,([]:List Ds))) (List.replicate n (.slice none 0 0))).length=n*2:=by
 induction n with
 |zero=>rfl
 |succ n ih=>simp only[VO,M4,IJ,ih];simp;omega
variable {w:World}
theorem CS.start{S:Nat->Prop}{W1:World}{fv:Value}(hn:n<=1000000)(bZ:fns.length=n)(F1:Fr (λ_=>False) w w1)(ho:w1.ownsRow (w.heap.size+1) 9 1 fv n (strCells fns))(eG:W1=(w1.alloc (.cells #[fv,.slice (some ⟨w1.heap.size+1,0,none⟩) n n] 86)).alloc (.cells (M4 (List.replicate n (0,[])) (List.replicate n (.slice none 0 0))).toArray 96)):
  CS (λk=>(S k/\k<w.heap.size)\/fv.ownBlock=some k) W1 w1.heap.size (.slice (some ⟨w1.heap.size+1,0,none⟩) n n) fns (List.replicate n (0,[]))/\Fr (λ_=>False) w1 W1/\W1.heap.size=w1.heap.size+2:=by
 have hs:=F1.size;have fA:Fr (λ_=>False) w1 W1:=by rw[eG];exact((eU _ _).alloc _).alloc _
 have mI:W1.heap.size=w1.heap.size+2:=by rw[eG,gM,gM]
 have nL:oH W1 w1.heap.size [fv,.slice (some ⟨w1.heap.size+1,0,none⟩) n n] 86:=by rw[eG];exact mr (gH w1 [fv,.slice (some ⟨w1.heap.size+1,0,none⟩) n n] 86) _
 have E5:oH W1 (w1.heap.size+1) (M4 (List.replicate n (0,[])) (List.replicate n (.slice none 0 0))) 96:=by have:=gH (w1.alloc (.cells #[fv,.slice (some ⟨w1.heap.size+1,0,none⟩) n n] 86)) (M4 (List.replicate n (0,[])) (List.replicate n (.slice none 0 0))) 96;rw[gM]at this;rw[eG];exact this
 have r9:∀k,fv.ownBlock=some k->k<w1.heap.size:=λk hk=>(ho.lt k hk).2
 refine⟨⟨⟨fv,nL,?_⟩,⟨List.replicate n (.slice none 0 0),by simp,⟨by simp[zee],.inr ⟨w1.heap.size+1,n,(M4 (List.replicate n (0,[])) (List.replicate n (.slice none 0 0))).toArray,by simp,Kc _,E5,by simp,?_,by simp[zee],?_⟩⟩,?_⟩,?_,?_,?_⟩,fA,mI⟩
 .rw[bZ];exact⟨Vz (Ou ho (Kc _)) fA,λk hk=>.inr hk⟩
 .simp[maxLen];omega
 .rw[N8 (by simp[zee])]
 .intro i b cv hb iW;have e1:=VP (ML hb);have e2:=VP (ML iW);rw[e1,e2];exact⟨[],⟨kt _ _ _ _,by simp[Value.ownBlock]⟩,rfl,by simp⟩
 .rintro k(⟨_,hk⟩|hk)
  .omega
  .have:=r9 k hk;omega
 .rintro k(⟨_,hk⟩|hk)
  .exact⟨by omega,by simp only[Value.ownBlock,ne_eq,IA];omega⟩
  .have:=r9 k hk;exact⟨by omega,by simp only[Value.ownBlock,ne_eq,IA];omega⟩
 .simp[Value.ownBlock]
variable {M N:Nat}{pv:Value}
theorem znB(hW:Nw M N N){S:Nat->Prop}{l:List By}{nvs bvs:List Value}(h1:nvs.length=l.length)(h2:bvs.length=l.length)(af:Row S w 93 4 pv l.length (OH l nvs bvs))(jY:To S w N l nvs bvs)(fj:fns=JE l)(cL:[109,97,105,110]∈fns)(aJ:∀f∈l,f.params.length<=5000/\∀bl:List (Nat × List Ds),bl.length+8*Cp.wt N f.e<=1000000->Fit M N fns ⟨bl,(texts f.params).reverse,[]⟩ f.e)(aX:∀f∈l,∀q:Bs,(Cp.work (Cp.free N) fns N f.e 0 q).blocks.length<=q.blocks.length+8*Cp.wt N f.e/\q.blocks.length<=(Cp.work (Cp.free N) fns N f.e 0 q).blocks.length)(dh:l.length+(l.map λf=>8*Cp.wt N f.e).sum<=1000000):
  Calls prog 35 #[pv] w λe w'=>∃Z cb rv,e=.returned (.agg #[rv,.int .i64 l.length,.int .i64 (fns.idxOf [109,97,105,110]:Nat)])/\CS Z w' cb rv fns (Cp.program N l)/\Fr (λ_=>False) w w':=by
 have mc:∀(fn:Fn)(first cap:Array Value)(w:World),(Instr.makeFunc fn first cap).run prog w=.ok (.func fn first cap) w:=λ_ _ _ _=>rfl
 have bZ:fns.length=l.length:=by rw[fj];simp[JE]
 have bp:0<l.length:=by have:=II cL;omega
 obtain⟨g,cap,rfl⟩:∃g cap,pv=.slice (some ⟨g,0,none⟩) l.length cap:=by
  rcases Mq af with rfl|⟨g,cap,rfl⟩
  .exfalso;rcases af.1.2 with⟨_,h0⟩|⟨_,_,_,h0,_⟩
   .omega
   .cases h0
  .exact⟨g,cap,rfl⟩
 have bR:∀(i:Nat)(nv bv:Value),nvs[i]?=some nv->bvs[i]?=some bv->nv.oneCell'=true/\bv.oneCell'=true:=by intro i nv bv hn hb;obtain⟨x,hx⟩:∃x,l[i]?=some x:=⟨_,Iv (by have:=(Dq.1 hn).1;omega)⟩;obtain⟨r1,r2⟩:=jY i x nv bv hx hn hb;obtain⟨a,k,c,rfl⟩:=Jk r1;obtain⟨t,x,rfl⟩:=JQ r2;exact⟨rfl,rfl⟩
 have f0:Fr (λ_=>False) w (w.alloc (.cells #[.slice none 0 0,.int .i64 0,.int .i64 0] 66)):=(eU _ _).alloc _;have CN:=eu (zdS (mq af f0) h1 h2 bR);have HM:=zty (n:=l.length) (by omega);have dS:=eu (gH w [.slice none 0 0,.int .i64 0,.int .i64 0] 66);have F0:=eu f0;have HR:=eu af;have HL:=eu jY;have vo:=eu (kK h1 (kK h2 (kK dh aJ)));have HC:=eu aX;have HW:=eu hW;have HF:=eu (kK fj cL);clear hW af jY h1 h2 fj cL aJ aX f0 bR;go_enter func35,ntmps35;go_wp2_with fail;refine CN.o.mono ?_;rintro e w1⟨v1,rfl,ja,b1⟩;obtain⟨np,nn,nc,rfl⟩:=OG ja;obtain⟨fj,cL⟩:=HF.o;have iP:(w.alloc (.cells #[.slice none 0 0,.int .i64 0,.int .i64 0] 66)).heap.size=w.heap.size+1:=gM _ _;have rQ:=b1.size;have F1:Fr (λ_=>False) w w1:=F0.o.trans (oq b1);obtain⟨W1,eG⟩:∃W1,W1=(w1.alloc (.cells #[.slice np nn nc,.slice (some ⟨w1.heap.size+1,0,none⟩) l.length l.length] 86)).alloc (.cells (M4 (List.replicate l.length (0,[])) (List.replicate l.length (.slice none 0 0))).toArray 96):=⟨_,rfl⟩;rw[iP]at ja;obtain⟨Z1,jU⟩:∃Z1:Nat->Prop,Z1=λk=>(S k/\k<w.heap.size)\/(Value.slice np nn nc).ownBlock=some k:=⟨_,rfl⟩
 obtain⟨zG,fA,mI⟩:=CS.start (S:=S) (n:=l.length) (fns:=fns) (by omega) bZ F1 (by rw[fj];exact ja) eG;rw[<-jU]at zG;have lR:=eu zG;clear CN;go_wp2_with fail;rw[<-eG]
 go_loopg [19] l.length (λgk iv wr=>∃(i:Nat)(Zi:Nat->Prop)(gX:Value)(bl:List (Nat × List Ds)),iv=.int .i64 i/\i+gk=l.length/\PL Z1 W1 wr w1.heap.size (.slice (some ⟨w1.heap.size+1,0,none⟩) l.length l.length) fns bl Zi gX /\
  Cp.lines (Cp.free N) fns N i (l.drop i) bl=Cp.program N l/\l.length<=bl.length/\bl.length+((l.drop i).map λf=>8*Cp.wt N f.e).sum<=1000000)
 case atStart=>exact⟨0,Z1,_,List.replicate l.length (0,[]),rfl,by omega,⟨λ_ _=>P2,lR.o,eU _ _,kq _ _⟩,by rw[Sb,fj];rfl,by simp,by simpa using dh⟩
 case round=>
  obtain⟨i,Zi,gX,bl,rfl,hi,hP,hE,cV,hB⟩:=hrel;have jJ:∀{t:TypeId}{size n:Nat}{v:Value}{xs:List Value},Row S w t size v n xs->Row Zi wr t size v n xs:=λhr=>hP.row lR.o (hr.Ku (F1.trans fA) (by simp) (λk hk hz=>by rw[jU];exact .inl ⟨hz,hk⟩))
  have jn:∀{n:Nat}{v:Value}{e:Ex},qU S w n v e->qU Zi wr n v e:=λhr=>hP.rep lR.o (hr.Ku (F1.trans fA) (by simp) (λk hk hz=>by rw[jU];exact .inl ⟨hz,hk⟩))
  have af:=jJ HR.o;have fX:=(af.1.lt g rfl).2;by_cases aj:i<l.length
  .obtain⟨x,hx⟩:∃x,l[i]?=some x:=⟨l[i],Iv aj⟩;have AY:=ML hx;obtain⟨nv,ay⟩:∃nv,nvs[i]?=some nv:=⟨_,Iv (by rw[vo.o.1];exact aj)⟩;obtain⟨bv,cC⟩:∃bv,bvs[i]?=some bv:=⟨_,Iv (by rw[vo.o.2.1];exact aj)⟩;obtain⟨r1,r2⟩:=HL.o i x nv bv hx ay cC;have rH:=jJ r1;have rJ:=jn r2;obtain⟨xa,xk,xc,rfl⟩:=Jk r1;obtain⟨yt,yx,rfl⟩:=JQ r2;have hc:=Vj l nvs bvs i x _ _ hx ay cC;have y0:=(af.1.cellAt (i*4) (by omega)).trans hc.1;have y1:=(af.1.cellAt (i*4+1) (by omega)).trans hc.2.1;have y2:=(af.1.cellAt (i*4+2) (by omega)).trans hc.2.2.1;have y3:=(af.1.cellAt (i*4+3) (by omega)).trans hc.2.2.2;have dt:(0:Int)<=(i:Int):=by omega
   have br:(i:Int)<(l.length:Int):=by omega
   obtain⟨gK,Al⟩:=vo.o.2.2.2 x AY;have hD:l.drop i=x::l.drop (i+1):=by rw[Q2 aj];rw[Iv aj]at hx;cases hx;rfl
   rw[hD,Ki,MW]at hB;have hF:=Al bl (by omega);obtain⟨sl,aK⟩:∃sl:List Cp.Nm,sl=(texts x.params).reverse:=⟨_,rfl⟩;rw[<-aK]at hF;obtain⟨q,hq⟩:∃q,q=Cp.work (Cp.free N) fns N x.e 0 ⟨bl,sl,[]⟩:=⟨_,rfl⟩;obtain⟨bH,bT⟩:=HC.o x AY ⟨bl,sl,[]⟩;rw[<-hq]at bH bT;simp only at bH bT;have gO:Cp.lines (Cp.free N) fns N (i+1) (l.drop (i+1)) (q.blocks.set i (sl.length,q.code))=Cp.program N l:=by rw[<-hE,hD,Cp.lines,hq,aK]
   have f1:Fr (λ_=>False) wr (wr.alloc (.cells #[.string ⟨x.name.s.toArray⟩,.int .i64 x.name.at_,.slice xa xk xc,.iface yt yx] 93)):=(eU _ _).alloc _;have hX:=gH wr [.string ⟨x.name.s.toArray⟩,.int .i64 x.name.at_,.slice xa xk xc,.iface yt yx] 93;have CT:=eu (WT (mq rH f1));have HX:=eu hX;have Bq:=eu f1;have HP:=eu hP;have fU:=eu (kK gO (kK bH (kK bT hB)));have HQ:=eu (kK hq aK);have qq:=eu (kK hF rJ);clear hP hE hB af rH rJ hc hF hq aK gO bH bT hX hD Al jJ jn f1 r1 r2;go_wp2_with fail;refine CT.o.mono ?_;rintro r w2⟨tv,rfl,hT,f2⟩;obtain⟨tp,tn,tc,rfl⟩:=Jk hT;have f3:Fr (λ_=>False) w2 (w2.alloc (.cells #[.slice tp tn tc] 38)):=(eU _ _).alloc _;have CF:=eu (zlp (gH w2 [.slice tp tn tc] 38) (mq hT f3) (by rw[Sw];omega));have F3:=eu ((Bq.o.trans f2).trans f3);have Bt:=eu (f2.trans f3);clear hT f2 f3 CT y0 y1 y2 y3;go_wp2_with fail;refine CF.o.mono ?_;rintro r w4⟨sv,rfl,hS,f4⟩;obtain⟨sp,sn,sc,rfl⟩:=Jk hS;have uy:=F3.o.trans f4;have hP:=HP.o;have bK:∀k,(Value.slice sp sn sc).ownBlock=some k->wr.heap.size<=k:=λk hk=>yM F3.o.size (hS.2 k hk)
   obtain⟨hq,aK⟩:=HQ.o;obtain⟨hF,rJ⟩:=qq.o;have wZ:=hS;rw[<-aK]at wZ;have CB:=eu (znu (lb:=#[.pointer (some ⟨wr.heap.size,0,none⟩)]) (q:=q) zrp (hP.c.qR uy) (Ou wZ.1 (Kc _)) (λk hk=>⟨by have:=hP.c.Nr;have:=bK k hk;omega,λe=>by have:=hP.c.Ns k e;have:=bK k hk;omega,λe=>by have:=hP.c.Ny k e;have:=bK k hk;omega⟩)
    (λW bb bQ hb=>by rw[hq];exact zn8 HW.o (gd (gd (gd HX.o Bt.o) f4) bQ) hb (rJ.qR (uy.trans bQ)) hF))
   have F4:=eu uy;have qH:=eu bK;clear hS wZ hP f4 uy bK hq aK hF rJ CF;go_wp2_with fail;refine CB.o.mono ?_;rintro r w5⟨Z',bb,aO,sv',bG,rfl,z5,b5,f5,n5,k5⟩;obtain⟨gO,bH,bT,hB⟩:=fU.o;obtain⟨g5,mH,rfl⟩:∃g5 mH,aO=.slice (some ⟨g5,0,none⟩) q.blocks.length mH:=by
    obtain⟨cP,_,ho,_⟩:=b5.OL;rcases ho.2 with⟨_,h0⟩|⟨g5,mH,cur,h0,_⟩
    .omega
    .exact⟨g5,mH,h0⟩
   obtain⟨kp,kn,kc,rfl⟩:∃a b c,bG=.slice a b c:=by obtain⟨vs,h0,_⟩:=b5.Pz;exact OG h0
   have EC:i<q.blocks.length:=by omega
   have f6:Fr (λ_=>False) w5 (w5.alloc (.cells #[.int .i64 sl.length,.slice kp kn kc] 96)):=(eU _ _).alloc _;have b6:=b5.qR f6;obtain⟨fv,nL,_⟩:=b6.OA;have d1:=al nL 1;simp at d1;obtain⟨cP,iW,fS,_⟩:=b6.OL;have oS:(M4 q.blocks cP).length=q.blocks.length*2:=fS.1;have z0:=fS.frozenAt (i*2);have z1:=fS.frozenAt (i*2+1);obtain⟨o0,zU⟩:∃o0,(M4 q.blocks cP)[i*2]?=some o0:=⟨_,Iv (by omega)⟩;obtain⟨o1,zV⟩:∃o1,(M4 q.blocks cP)[i*2+1]?=some o1:=⟨_,Iv (by omega)⟩;have e0:=(fS.cellAt (i*2) (by omega)).trans zU;have e1:=(fS.cellAt (i*2+1) (by omega)).trans zV;have Ew:=(fS.lt g5 rfl).2;have HN:=eu (PL.next (m:=sl.length) HP.o F4.o qH.o z5 b5 f5 n5 k5 f6 EC);have HB:=eu (kK bH (kK bT (kK hB gO)));have sR:(i:Int)<(q.blocks.length:Int):=by omega
   clear b5 b6 f5 n5 k5 z5 f6 nL CB bH bT hB gO fS iW zU zV oS;go_wp2_with fail
   go_region
   go_wp2
   go_roundg (l.length-(i+1))
   case measure=>omega
   case rel=>obtain⟨bH,bT,hB,gO⟩:=HB.o;refine⟨i+1,_,_,_,by go_num,by omega,HN.o.drew,gO,by rw[MH];omega,by rw[MH];omega⟩
  .have br:i=l.length:=by omega
   have x8:w.heap.size+1<=w1.heap.size:=by rw[iP]at rQ;exact rQ
   rw[br,Jd,Cp.lines]at hE;subst hE;obtain⟨fv,nL,bI⟩:=hP.c.OA;obtain⟨fp,fm,fc,rfl⟩:=Jk bI;have CI:=eu (znS (w:=wr.drew) (mq bI (eU (λ_=>False) wr).drew) (by omega) cL);have hR:oH wr w.heap.size [.slice none 0 0,.int .i64 0,.int .i64 0] 66:=by
    refine gd (gd (gd dS.o (K:=λ_=>False) (oq b1)) fA) hP.f ?_;rintro(e|e)
    .omega
    .simp only[Value.ownBlock,IA]at e;omega
   have hF:Fr (λ_=>False) w wr:=by
    have:=(F1.trans fA);refine⟨hP.f.os.trans this.os,hP.f.tape.trans this.tape,hP.f.output.trans this.output,yM this.size hP.f.size,λk hk _=>(hP.f.block k (Kl hk this.size) ?_).trans (this.block k hk (by simp))⟩;rintro(e|e)
    .have:=F1.size;omega
    .simp only[Value.ownBlock,IA]at e;have:=F1.size;omega
   have q0:=al nL 0;have q1:=al nL 1;have r0:=al hR 0;have r1:=al hR 1;have r2:=al hR 2;have z0:=ku hR 0;have z1:=ku hR 1;have z2:=ku hR 2;simp at q0 q1 r0 r1 r2;obtain⟨rp,rn,rc,rfl⟩:∃a b c,gX=.slice a b c:=by obtain⟨cP,_,h0,_⟩:=hP.c.OL;exact OG h0
   have ui:=eu hR;have ub:=eu hF;have HP:=eu hP;have eE:w1.heap.size≠w.heap.size:=by have:=F1.size;omega
   have Ck:Hid (∀k,Zi k\/k=w1.heap.size\/(Value.slice rp rn rc).ownBlock=some k->¬k=w.heap.size):=eu (by
    rintro k(e|e|e)rfl
    .have e2:=(hP.z w.heap.size (by omega)).1 e;rw[jU]at e2;rcases e2 with⟨_,e2⟩|e2
     .omega
     .have:=(ja.lt _ e2).1;omega
    .omega
    .rcases hP.n _ e with e|e
     .simp only[Value.ownBlock,IA]at e;omega
     .omega)
   clear hP hR hF nL bI af jJ jn fX fj;go_wp2_with fail
   go_region_with (go_at_call 55;refine CI.o.mono ?_;rintro e wA⟨rfl,rfl⟩)
   all_goals
    go_wp2_with fail;refine mF (Dr rfl _ _ w.heap.size _ _ _ _ rfl (IC (xN (xN (xN ui.o 0 _) 1 _) 2 _)) underlying66 rfl (by kernel_rfl)) rfl ?_;have f9:Fr (λk=>k=w.heap.size) wr (((wr.setCell ⟨w.heap.size,0,none⟩ (.slice rp rn rc)).setCell ⟨w.heap.size,1,none⟩ (.int .i64 l.length)).setCell ⟨w.heap.size,2,none⟩ (.int .i64 (fns.idxOf [109,97,105,110]:Nat))).drew:=((((eU (λk=>k=w.heap.size) _).set _ _ (.inl rfl)).set _ _ (.inl rfl)).set _ _ (.inl rfl)).drew;refine⟨Zi,w1.heap.size,.slice rp rn rc,rfl,HP.o.c.SS f9 ?_,?_⟩
    .exact Ck.o
    .exact Fr.drew (IL (IL (IL ub.o _ _ (.inr (qP _))) _ _ (.inr (qP _))) _ _ (.inr (qP _)))
end
section
open Go.RowKit
namespace Cp
theorem zlz{M N:Nat}(fns:List Nm)(hM:M<=5000):∀(l:List By)(i:Nat)(bl:List (Nat × List Ds)),(∀f∈l,Dp N f.e/\wt N f.e<=M/\f.params.length<=5000)->i+l.length<=bl.length->(∀(j:Nat)(b:Nat × List Ds),bl[j]?=some b->(j<i\/i+l.length<=j)->VG b) ->
  (∀b∈lines (free N) fns N i l bl,VG b)/\i+l.length<=(lines (free N) fns N i l bl).length
 |[],i,bl,_,hl,h=>by rw[lines];refine⟨λb hb=>?_,hl⟩;obtain⟨j,hj⟩:=List.mem_iff_getElem?.1 hb;exact h j b hj (by simp;omega)
 |f::l,i,bl,hf,hl,h=>by
  obtain⟨f1,f2,f3⟩:=hf f (by simp);simp only[Kh]at hl h;rw[lines];obtain⟨sl,aK⟩:∃sl:List Nm,sl=(texts f.params).reverse:=⟨_,rfl⟩;have s8:sl.length<=5000:=by rw[aK];simp[texts];omega
  rw[<-aK];obtain⟨⟨⟨more,e1,g1⟩,c,d1,o1⟩,a2⟩:=P8 (M:=M) N fns hM N f.e 0 ⟨bl,sl,[]⟩ f1 f1 f2;have a3:=(Oa M N fns N f.e 0 ⟨bl,sl,[]⟩ f1 f2).1;have a4:=YZ hM f2;generalize work (free N) fns N f.e 0 ⟨bl,sl,[]⟩=q at e1 d1 a2 a3|-;simp only[My,On,MQ]at e1 d1 a2 a3;have p7:bl.length<=q.blocks.length:=by rw[e1];simp
  have gJ:∀(j:Nat)(b:Nat × List Ds),(q.blocks.set i (sl.length,q.code))[j]?=some b->(j<i+1\/i+1+l.length<=j)->VG b:=by
   intro j b hj E0;rw[Kw]at hj;by_cases ki:i=j
   .rw[nB ki]at hj;subst ki;rw[Ji]at hj;cases hj;refine⟨by simp only;omega,λe0=>?_,by simp only;omega,λx hx=>?_⟩
    .simp only at e0;rw[e0]at a2;simp at a2
    .simp only at hx;rw[d1]at hx;exact o1 x hx
   .rw[pL ki,e1,OQ]at hj;by_cases gT:j<bl.length
    .rw[nB gT]at hj;exact h j b hj (by omega)
    .rw[pL gT]at hj;exact g1 b (ML hj)
  obtain⟨i1,i2⟩:=zlz fns hM l (i+1) (q.blocks.set i (sl.length,q.code)) (λx hx=>hf x (by simp[hx])) (by rw[MH];omega) gJ;exact⟨i1,by simp only[Kh];omega⟩
variable {M N:Nat}
theorem zn9(hM:M<=5000){l:List By}(hf:∀f∈l,Dp N f.e/\wt N f.e<=M/\f.params.length<=5000):(∀b∈program N l,VG b)/\l.length<=(program N l).length:=by
 obtain⟨h1,h2⟩:=zlz (l.map λf=>f.name.s) hM l 0 (List.replicate l.length (0,[])) hf (by simp) (λj b hj E0=>by have:=(Dq.1 hj).1;simp at this;omega)
 exact⟨h1,by unfold program;omega⟩
end Cp
variable {w:World}{sv:Value}{n size:Nat}{xs:List Value}
theorem zhM{e:TypeId}(h:w.ownsRow 0 e size sv n xs)(hn:0<n):∃g cap,sv=.slice (some ⟨g,0,none⟩) n cap/\sv.ownBlock=some g/\g<w.heap.size/\∀j v,xs[j]?=some v->w.cell? ⟨g,j,none⟩=some v:=by
 have h0:=h;obtain⟨h1,h2⟩:=h;rcases h2 with⟨rfl,rfl⟩|⟨g,cap,cur,rfl,hg,hb,r1,r2,r3,r4⟩
 .omega
 .refine⟨g,cap,rfl,rfl,(Nz.1 hb).1,λj v hj=>?_⟩;have gT:=(Dq.1 hj).1;rw[h0.cellAt j (by omega)];exact hj
theorem zh5:∀(l:List (Nat × List Ds))(vs:List Value)(i:Nat)(b:Nat × List Ds)(v:Value),l[i]?=some b->vs[i]?=some v->(M4 l vs)[i*2]?=some (.int .i64 b.1)/\(M4 l vs)[i*2+1]?=some v
 |[],_,_,_,_,h,_=>by simp at h
 |_::_,[],_,_,_,_,h=>by simp at h
 |x::l,y::vs,0,b,v,h1,h2=>by simp at h1 h2;subst h1 h2;simp[M4]
 |x::l,y::vs,i+1,b,v,h1,h2=>by have:=zh5 l vs i b v (by simpa using h1) (by simpa using h2);simp only[M4];rw[show(i+1)*2=i*2+1+1 by omega];simp only[MP,MQ,R7];exact this
theorem zgL:∀(l:List (Nat × Nat × Nat))(i t c b:Nat),l[i]?=some (t,c,b)->(QB l)[i*3]?=some (.int .i64 t)/\(QB l)[i*3+1]?=some (.int .i64 c)/\(QB l)[i*3+2]?=some (.int .i64 b)
 |[],_,_,_,_,h=>by simp at h
 |x::l,0,t,c,b,h=>by simp at h;subst h;simp[QB]
 |x::l,i+1,t,c,b,h=>by have:=zgL l i t c b (by simpa using h);unfold QB at this|-;rw[JS,show(i+1)*3=i*3+1+1+1 by omega];simp only[MP,MQ,R7];exact this
variable {Z:Nat->Prop}{v:Value}
theorem zxu{i:Ds}{mb wb:Nat}(hm:w.heap.size<=mb)(hw:w.heap.size<=wb)(h:PS Z w v i)(ho:VH i):Sd w mb wb (.slice none 0 0) v i:=by
 cases i with
 |choose nA=>
  obtain⟨av,h1,h2,h3⟩:=h;have hp:0<nA.length:=Qw.2 h3;obtain⟨g,cap,rfl,_,fX,hc⟩:=zhM h2.1 hp;have uO:nA.length<=5000:=ho;refine⟨_,h1,g,cap,rfl,fX,?_,by omega,λj t c b hj=>?_⟩
  .rintro(e|e|e)
   .omega
   .omega
   .cases e
  .obtain⟨a1,a2,a3⟩:=zgL nA j t c b hj;exact⟨hc _ _ a1,hc _ _ a2,hc _ _ a3⟩
 |_=>exact h
variable {cb:Nat}{rv:Value}{fns:List Cp.Nm}
theorem zsQ{cd:List (Nat × List Ds)}(h:CS Z w cb rv fns cd)(hg:∀b∈cd,VG b)(hp:0<cd.length):Zf w rv cd:=by
 intro mb wb hm hw;obtain⟨cP,h1,h2,h3⟩:=h.OL;obtain⟨g,cap,rfl,_,fX,hc⟩:=zhM h2 hp;refine⟨g,cap,rfl,fX,?_,λi n is hi=>?_⟩
 .rintro(e|e|e)
  .omega
  .omega
  .cases e
 .obtain⟨b1,b2,b3,b4⟩:=hg _ (ML hi);simp only at b1 b2 b3 b4;have br:=(Dq.1 hi).1;obtain⟨cv,iW⟩:∃cv,cP[i]?=some cv:=⟨_,Iv (by omega)⟩;obtain⟨e1,e2⟩:=zh5 cd cP i (n,is) cv hi iW;obtain⟨vs,r1,r2,r3⟩:=h3 i (n,is) cv hi iW;simp only at r1 r2 r3;obtain⟨g2,fI,rfl,_,aF,bT⟩:=zhM r1.1 (Qw.2 b2);refine⟨by omega,b3,hc _ _ e1,g2,fI,vs,hc _ _ e2,aF,?_,r2,λj x hj=>?_⟩
  .rintro(e|e|e)
   .omega
   .omega
   .cases e
  .have gT:=(Dq.1 hj).1;obtain⟨v,hv⟩:∃v,vs[j]?=some v:=⟨_,Iv (by omega)⟩;exact⟨v,hv,bT _ _ hv,zxu hm hw (r3 j v x hv hj) (b4 x (ML hj))⟩
end
section
namespace Th
def WB (b:Nat) (e:Ex):Prop:=∃m,Dp m e/\Cp.wt m e<=b
def O5 (b:Nat) (l:List Ex):Prop:=∃m,(∀p∈l,Dp m p)/\(l.map (Cp.wt m)).sum<=b
variable {b m k:Nat}
theorem O5.up{l:List Ex}(h1:∀p∈l,Dp m p)(h2:(l.map (Cp.wt m)).sum<=b)(hk:m<=k):(∀p∈l,Dp k p)/\(l.map (Cp.wt k)).sum<=b:=
 ⟨λp hp=>(h1 p hp).le hk,by rw[U3 (λp hp=>JD (h1 p hp) hk)];exact h2⟩
theorem O5.nil:O5 0 []:=⟨0,by simp,by simp⟩
variable {a:Nat}
theorem O5.snoc{l:List Ex}{e:Ex}(h:O5 a l)(k:WB b e):O5 (a+b) (l++[e]):=by
 obtain⟨m,h1,h2⟩:=h;obtain⟨n,k1,k2⟩:=k;obtain⟨g1,g2⟩:=O5.up h1 h2 (TG m n);have k3:=JD k1 (T6 n m);refine⟨m+n,λp hp=>?_,?_⟩
 .rcases Ni.mp hp with hp|hp
  .exact g1 p hp
  .rw[NA.mp hp];exact k1.le (by omega)
 .rw[SO,TH];simp;omega
theorem WB.of{e:Ex}(hw:ZI e)(hk:∀k∈e.kids,Dp m k)(hb:1+e.names.length+(e.nA.map λa=>1+a.2.length).sum+(e.kids.map (Cp.wt m)).sum<=b):WB b e:=⟨m+1,⟨hw,hk⟩,by rw[Cp.wt];exact hb⟩
variable {n:Nat}
theorem zyF(h:n<=999999999):WB 1 (mkNum n):=WB.of (m:=0) ⟨by simp[mkNum],by simp[mkNum],h,by simp[mkNum],by simp[mkNum],by simp[mkNum],by simp[mkNum],by simp[mkNum],by simp[mkNum],by simp[mkNum],by simp[mkNum],by simp[mkNum],by simp[mkNum]⟩ (by simp[mkNum]) (by simp[mkNum])
theorem zx3{t:Tok}(h:t.s≠[]):WB 1 (NY t):=WB.of (m:=0) ⟨by simp[NY],by simp[NY],by simp[NY],by simp[NY],by simp[NY],by simp[NY],by simp[NY],λ_=>h,by simp[NY],by simp[NY],by simp[NY],by simp[NY],by simp[NY]⟩ (by simp[NY]) (by simp[NY])
theorem zx2{t:Nat}(h1:t<=99)(h2:a<=9):WB 1 (Oe t a):=WB.of (m:=0) ⟨by simp[Oe],by simp[Oe],by simp[Oe],h1,h2,by simp[Oe],by simp[Oe],by simp[Oe],by simp[Oe],by simp[Oe],by simp[Oe],by simp[Oe],by simp[Oe]⟩ (by simp[Oe]) (by simp[Oe])
theorem zyD{l:List Tok}{e:Ex}(hl:l≠[])(hs:∀t∈l,t.s≠[])(h:WB b e):WB (b+l.length+1) (mkFun l e):=by obtain⟨m,h1,h2⟩:=h;exact WB.of (m:=m) ⟨by simp[mkFun],by simp[mkFun],by simp[mkFun],by simp[mkFun],by simp[mkFun],hs,by simp[mkFun],by simp[mkFun],λ_=>⟨hl,e,rfl⟩,by simp[mkFun],by simp[mkFun],by simp[mkFun],by simp[mkFun]⟩ (by simp[mkFun,h1]) (by simp[mkFun];omega)
variable {f:Ex}
theorem zw1{e:Ex}(h:WB a e)(k:WB b f):∃m,Dp m e/\Dp m f/\Cp.wt m e<=a/\Cp.wt m f<=b:=by obtain⟨m,h1,h2⟩:=h;obtain⟨n,k1,k2⟩:=k;exact⟨m+n,h1.le (by omega),k1.le (by omega),by rw[JD h1];exact h2,by rw[JD k1];exact k2⟩
theorem zx0{e:Ex}(h:WB a e)(k:WB b f):WB (a+b+1) (M5 e f):=by obtain⟨m,h1,h2,h3,h4⟩:=zw1 h k;exact WB.of (m:=m) ⟨by simp[M5],by simp[M5],by simp[M5],by simp[M5],by simp[M5],by simp[M5],by simp[M5],by simp[M5],by simp[M5],λ_=>⟨e,f,rfl⟩,by simp[M5],by simp[M5],by simp[M5]⟩ (by simp[M5,h1,h2]) (by simp[M5];omega)
theorem zyG{t:Tok}{e:Ex}(ht:t.s∈MM)(h:WB a e)(k:WB b f):WB (a+b+1) (JF t e f):=by obtain⟨m,h1,h2,h3,h4⟩:=zw1 h k;exact WB.of (m:=m) ⟨by simp[JF],by simp[JF],by simp[JF],by simp[JF],by simp[JF],by simp[JF],by simp[JF],by simp[JF],by simp[JF],λ_=>⟨e,f,rfl⟩,λ_=>ht,by simp[JF],by simp[JF]⟩ (by simp[JF,h1,h2]) (by simp[JF];omega)
theorem zyE{r:Bool}{l:List Tok}{parts:List Ex}{e:Ex}(hl:l≠[])(hs:∀t∈l,t.s≠[])(hn:parts.length=l.length)(h:O5 a parts)(k:WB b e):WB (a+b+l.length+1) (mkLet r l parts e):=by
 obtain⟨m,h1,h2⟩:=h;obtain⟨n,k1,k2⟩:=k;obtain⟨g1,g2⟩:=O5.up h1 h2 (TG m n);have k3:=JD k1 (T6 n m);have hk:(mkLet r l parts e).kind=7\/(mkLet r l parts e).kind=8:=by cases r<;>simp[mkLet]
 refine WB.of (m:=m+n) ⟨by omega,by omega,by simp[mkLet],by simp[mkLet],by simp[mkLet],hs,by simp[mkLet],λh=>by omega,λh=>by omega,λh=>by omega,λh=>by omega,λ_=>⟨hl,e,parts,rfl,hn⟩,λh=>by omega⟩ (λp hp=>?_) ?_
 .rcases Mz.1 hp with rfl|hp
  .exact k1.le (by omega)
  .exact g1 p hp
 .simp only[mkLet,qO,Jv,Ki,MW];omega
theorem zx1{l:List (Nat × List Tok)}{ag:List Ex}{e:Ex}(hl:l≠[])(hs:∀x∈l,x.1<=99/\∀t∈x.2,t.s≠[])(hn:ag.length=l.length)(h:O5 a ag)(k:WB b e):WB (a+b+(l.map λx=>1+x.2.length).sum+1) (mkCase e l ag):=by
 obtain⟨m,h1,h2⟩:=h;obtain⟨n,k1,k2⟩:=k;obtain⟨g1,g2⟩:=O5.up h1 h2 (TG m n);have k3:=JD k1 (T6 n m);refine WB.of (m:=m+n) ⟨by simp[mkCase],by simp[mkCase],by simp[mkCase],by simp[mkCase],by simp[mkCase],by simp[mkCase],hs,by simp[mkCase],by simp[mkCase],by simp[mkCase],by simp[mkCase],by simp[mkCase],λ_=>⟨hl,e,ag,rfl,hn⟩⟩ (λp hp=>?_) ?_
 .rcases Mz.1 hp with rfl|hp
  .exact k1.le (by omega)
  .exact g1 p hp
 .simp only[mkCase,My,Ki,MW];omega
def Kr (st:St):Prop:=∀t∈st.rest,(t.k=3->val t.s<=999999999)/\(t.k=2->t.s≠[])
theorem Kr.qM{st:St}(h:Kr st):Kr st.qM:=λt ht=>h t (List.mem_of_mem_tail ht)
theorem Kr.fail{st:St}(h:Kr st):Kr st.fail:=by
 unfold St.fail;split
 .intro t ht;simp at ht
 .exact h
theorem Kr.want{st:St}(s:List UInt8)(h:Kr st):Kr (want s st):=by
 unfold Th.want;split
 .exact h.qM
 .exact h.fail
theorem Kr.IG{st:St}(h:Kr st):Kr (IG st).2:=by
 unfold Th.IG;split
 .exact h.qM
 .exact h.fail
theorem Kr.JR{st:St}(h:Kr st):Kr (JR st).2:=by
 unfold Th.JR;split
 .exactλt ht=>h t ((IH _).subset ht)
 .exact h
theorem Kr.Kv{st:St}(a b:Nat)(h:Kr st):Kr (Kv a b st).2:=by
 unfold Th.Kv;split
 .exact h.qM
 .exact h.fail
variable {st:St}
theorem RV{s:List UInt8}(h:st.is s=true)(hs:s≠[]):st.rest.length=st.qM.rest.length+1:=by
 unfold St.is at h;simp only[OR,uq]at h;cases hr:st.rest with
 |nil=>exact absurd (by rw[<-h.2];simp[St.hd,hr,ON]) hs
 |cons t r=>simp[St.qM,hr]
theorem Vt(h:st.kind k=true)(hk:k≠0):st.rest.length=st.qM.rest.length+1/\st.hd∈st.rest/\st.hd.k=k:=by
 unfold St.kind at h;simp only[OR,uq]at h;cases hr:st.rest with
 |nil=>exact absurd (by rw[<-h.2];simp[St.hd,hr,ON]) hk
 |cons t r=>exact⟨by simp[St.qM,hr],by simp[St.hd,hr],h.2⟩
theorem QO{s:List UInt8}(h:(want s st).bad=none)(hs:s≠[]:=by decide):st.rest.length=(want s st).rest.length+1:=by
 unfold want at h|-;split at h
 .next hi=>rw[nB hi];exact RV hi hs
 .exact(SI h).elim
theorem R0(h:(IG st).2.bad=none)(ht:Kr st):st.rest.length=(IG st).2.rest.length+1/\(IG st).1.s≠[]:=by
 unfold IG at h|-;split at h
 .next hi=>rw[nB hi];obtain⟨a,b,c⟩:=Vt hi (by decide);exact⟨a,(ht _ b).2 c⟩
 .exact(SI h).elim
theorem UA(h:(JR st).2.bad=none)(ht:Kr st):st.rest.length=(JR st).2.rest.length+(JR st).1.length/\∀t∈(JR st).1,t.s≠[]:=by
 have hb:=RO _ h;unfold JR;rw[nB (by rw[hb];rfl)];refine⟨?_,λt hm=>?_⟩
 .have:=qz List.length (List.takeWhile_append_dropWhile (p:=λt:Tok=>t.k == 2) (l:=st.rest));rw[IJ]at this;simp only;omega
 .simp only at hm;have h1:=(U4 _).subset hm;have h2:(t.k == 2)=true:=List.all_eq_true.1 (IE (p:=λt:Tok=>t.k == 2) (l:=st.rest)) t hm;simp only[uq]at h2;exact(ht t h1).2 h2
theorem zhL(h:(Kv a b st).2.bad=none):st.rest.length=(Kv a b st).2.rest.length+1:=by
 unfold Kv at h|-;split at h
 .next hi=>rw[nB hi];simp only[OR]at hi;exact(Vt hi.1.1 (by decide)).1
 .exact(SI h).elim
def RZ (st:St) (q:Ex × St):Prop:=Kr q.2/\(q.2.bad=none->∃b,b+1+2*q.2.rest.length<=2*st.rest.length/\WB b q.1)
def Qc (ex:Rd):Prop:=∀c st q,ex c st=some q->Kr st->RZ st q
theorem zpC(h:Kr st):Kr (PN st).2/\((PN st).2.bad=none->(PN st).2.rest.length<=st.rest.length/\WB 1 (PN st).1):=by refine⟨Kr.want _ (Kr.Kv _ _ (Kr.want _ (Kr.Kv _ _ h))),λhb=>?_⟩;have h1:=QO (s:=[125]) hb (by decide);have b1:=MI _ _ hb;have h2:=zhL b1;have b2:=WZ _ _ _ b1;have h3:=QO b2;have h4:=zhL (MI _ _ b2);refine⟨?_,zx2 (Vm _ _ _) (Vm _ _ _)⟩;unfold PN at *;simp only at *;omega
variable {ex:Rd}{q:Ex × St}
theorem zlB(hx:Qc ex)(h:NZ ex st=some q)(ht:Kr st):RZ st q:=by
 unfold NZ at h;split at h
 .next hi=>cases h;obtain⟨a,b,c⟩:=Vt hi (by decide);exact⟨ht.qM,λ_=>⟨1,by simp only;omega,zx3 ((ht _ b).2 c)⟩⟩
 .split at h
  .next hi=>cases h;obtain⟨a,b,c⟩:=Vt hi (by decide);exact⟨ht.qM,λ_=>⟨1,by simp only;omega,zyF ((ht _ b).1 c)⟩⟩
  .split at h
   .next hi=>cases h;have a:=RV hi (by decide);obtain⟨m1,m2⟩:=zpC ht.qM;refine⟨m1,λhb=>?_⟩;obtain⟨n1,n2⟩:=m2 hb;exact⟨1,by omega,n2⟩
   .split at h
    .next hi=>simp only[JM,IA]at h;obtain⟨r,h1,rfl⟩:=h;have a:=RV hi (by decide);have m:=hx _ _ _ h1 ht.qM;refine⟨m.1.want _,λhb=>?_⟩;have w:=QO (s:=[41]) hb (by decide);obtain⟨b,aA,aw⟩:=m.2 (MI _ _ hb);exact⟨b,by simp only at *;omega,aw⟩
    .cases h;exact⟨ht.fail,λhb=>(SI hb).elim⟩
theorem zjr{ex:Rd}(hx:Qc ex)(hk:MJ ex):∀(k:Nat)(e:Ex)(st s0:St)(q:Ex × St),Of ex k e st=some q->Kr st->(st.bad=none->∃b,b+1+2*st.rest.length<=2*s0.rest.length/\WB b e)->RZ s0 q
 |0,_,_,_,_,h,_,_=>by simp[Of]at h
 |k+1,e,st,s0,q,h,ht,he=>by
  rw[Of]at h;split at h
  .simp only[JM]at h;obtain⟨r,h1,h2⟩:=h;have m:=zlB hx h1 ht;refine zjr hx hk k _ _ s0 _ h2 m.1 (λhb=>?_);obtain⟨a,a1,a2⟩:=he (Yq hk h1 hb);obtain⟨b,b1,b2⟩:=m.2 hb;exact⟨a+b+1,by omega,zx0 a2 b2⟩
  .cases h;exact⟨ht,he⟩
theorem zlC(hx:Qc ex)(hk:MJ ex)(h:OZ ex k st=some q)(ht:Kr st):RZ st q:=by unfold OZ at h;simp only[JM]at h;obtain⟨r,h1,h2⟩:=h;have m:=zlB hx h1 ht;exact zjr hx hk k _ _ _ _ h2 m.1 m.2
theorem zjs{sub:St->Option (Ex × St)}(hs:∀st q,sub st=some q->Kr st->RZ st q)(hk:∀st q,sub st=some q->q.2.bad=none->st.bad=none){a b:List UInt8}(ha:a∈MM)(hb:b∈MM):
  ∀(k:Nat)(e:Ex)(st s0:St)(q:Ex × St),Nk sub a b k e st=some q->Kr st->(st.bad=none->∃b,b+1+2*st.rest.length<=2*s0.rest.length/\WB b e)->RZ s0 q
 |0,_,_,_,_,h,_,_=>by simp[Nk]at h
 |k+1,e,st,s0,q,h,ht,he=>by
  rw[Nk]at h;split at h
  .next hi=>
   simp only[JM]at h;obtain⟨r,h1,h2⟩:=h;have m:=hs _ _ h1 ht.qM;simp only[U7]at hi;have aH:∀x∈MM,x≠[]:=by decide
   have hlen:st.rest.length=st.qM.rest.length+1:=by
    rcases hi with hi|hi
    .exact RV hi (aH _ ha)
    .exact RV hi (aH _ hb)
   refine zjs hs hk ha hb k _ _ s0 _ h2 m.1 (λaQ=>?_);obtain⟨c,c1,c2⟩:=he (OV _ (hk _ _ h1 aQ));obtain⟨d,d1,d2⟩:=m.2 aQ;refine⟨c+d+1,by omega,zyG ?_ c2 d2⟩;rcases hi with hi|hi
   .rw[Vn hi];exact ha
   .rw[Vn hi];exact hb
  .cases h;exact⟨ht,he⟩
theorem zg1(hx:Qc ex)(hk:MJ ex)(h:Px ex k st=some q)(ht:Kr st):RZ st q:=by unfold Px at h;simp only[JM]at h;obtain⟨r,h1,h2⟩:=h;have m:=zlC hx hk h1 ht;exact zjs (λ_ _ a b=>zlC hx hk a b) (λ_ _ a=>Yr hk _ _ _ a) (by decide) (by decide) k _ _ _ _ h2 m.1 m.2
theorem znY(hx:Qc ex)(hk:MJ ex)(h:PD ex k st=some q)(ht:Kr st):RZ st q:=by unfold PD at h;simp only[JM]at h;obtain⟨r,h1,h2⟩:=h;have m:=zg1 hx hk h1 ht;exact zjs (λ_ _ a b=>zg1 hx hk a b) (λ_ _ a=>Yg hk _ _ _ a) (by decide) (by decide) k _ _ _ _ h2 m.1 m.2
theorem zrG(hx:Qc ex)(hk:MJ ex)(h:Py ex k st=some q)(ht:Kr st):RZ st q:=by
 unfold Py at h;simp only[JM]at h;obtain⟨r,h1,h2⟩:=h;have m:=znY hx hk h1 ht;split at h2
 .next hi=>
  simp only[JM,IA]at h2;obtain⟨p,h3,rfl⟩:=h2;have m2:=znY hx hk h3 m.1.qM;simp only[U7]at hi;have hlen:r.2.rest.length=r.2.qM.rest.length+1:=by
   rcases hi with hi|hi
   .exact RV hi (by decide)
   .exact RV hi (by decide)
  refine⟨m2.1,λhb=>?_⟩;obtain⟨c,c1,c2⟩:=m.2 (OV _ (W6 hk _ _ _ h3 hb));obtain⟨d,d1,d2⟩:=m2.2 hb;refine⟨c+d+1,by simp only at *;omega,zyG ?_ c2 d2⟩;rcases hi with hi|hi
  .rw[Vn hi];decide
  .rw[Vn hi];decide
 .cases h2;exact m
theorem zjq{ex:Rd}(hx:Qc ex)(hk:MJ ex):∀(k:Nat)(l:List Tok)(es:List Ex)(st s0:St)(q:List Tok × List Ex × St),NH ex k l es st=some q->Kr st->es.length=l.length->(st.bad=none->(∀t∈l,t.s≠[])/\∃b,b+l.length+2*st.rest.length<=2*s0.rest.length/\O5 b es) ->
  Kr q.2.2/\q.1≠[]/\q.2.1.length=q.1.length/\(q.2.2.bad=none->(∀t∈q.1,t.s≠[])/\∃b,b+q.1.length+2*q.2.2.rest.length<=2*s0.rest.length/\O5 b q.2.1)
 |0,_,_,_,_,_,h,_,_,_=>by simp[NH]at h
 |k+1,l,es,st,s0,q,h,ht,hl,he=>by
  rw[NH]at h;simp only[JM]at h;obtain⟨r,h1,h2⟩:=h;have m:=hx _ _ _ h1 (ht.IG.want _);have hs:r.2.bad=none->(∀t∈l++[(IG st).1],t.s≠[])/\∃b,b+(l++[(IG st).1]).length+2*r.2.rest.length<=2*s0.rest.length/\O5 b (es++[r.1]):=λhb=>by
   have g1:=hk _ _ _ h1 hb;have g2:=MI _ _ g1;have g3:=Ss _ g2;have l1:=QO g1;obtain⟨l2,l3⟩:=R0 g2 ht;obtain⟨e1,b,e2,e3⟩:=he g3;obtain⟨c,c1,c2⟩:=m.2 hb;refine⟨λt hm=>?_,b+c,by simp;omega,e3.snoc c2⟩;rcases Ni.mp hm with hm|hm
   .exact e1 t hm
   .rw[NA.mp hm];exact l3
  have aC:(es++[r.1]).length=(l++[(IG st).1]).length:=by simp[hl]
  split at h2
  .next hi=>have a:=RV hi (by decide);refine zjq hx hk k _ _ _ s0 _ h2 m.1.qM aC (λhb=>?_);obtain⟨e1,b,e2,e3⟩:=hs (OV _ hb);exact⟨e1,b,by omega,e3⟩
  .cases h2;exact⟨m.1,by simp,aC,hs⟩
variable {c:Bool}
theorem ztu(hx:Qc ex)(hk:MJ ex)(h:Qv ex k c st=some q)(ht:Kr st):Kr q.2/\(q.2.bad=none->∃b,b+2*q.2.rest.length<=2*st.rest.length/\WB b q.1):=by
 unfold Qv at h;simp only[JM,IA]at h;obtain⟨r,h1,p,h2,rfl⟩:=h;have h0:Kr (if st.is Na then st.qM else st):=by
  split
  .exact ht.qM
  .exact ht
 have da:(if st.is Na then st.qM else st).rest.length<=st.rest.length:=by
  split
  .simp[St.qM]
  .exact qP _
 obtain⟨a1,a2,a3,a4⟩:=zjq hx hk k _ _ _ st _ h1 h0 rfl (λ_=>⟨by simp,0,by simpa using Pr 2 da,O5.nil⟩);have m:=hx _ _ _ h2 (a1.want _);refine⟨m.1,λhb=>?_⟩;have g1:=hk _ _ _ h2 hb;have l1:=QO g1;obtain⟨e1,b,e2,e3⟩:=a4 (MI _ _ g1);obtain⟨d,d1,d2⟩:=m.2 hb;refine⟨b+d+r.1.length+1,by simp only at *;omega,zyE a2 e1 a3 e3 d2⟩
theorem zts(hx:Qc ex)(hk:MJ ex){q:(Nat × List Tok) × Ex × St}(h:PC ex c st=some q)(ht:Kr st):q.1.1<=99/\Kr q.2.2/\(q.2.2.bad=none->(∀t∈q.1.2,t.s≠[])/\∃b,b+1+q.1.2.length+2*q.2.2.rest.length<=2*st.rest.length/\WB b q.2.1):=by unfold PC at h;simp only[JM,IA]at h;obtain⟨r,h1,rfl⟩:=h;have t1:=Kr.want [62] (Kr.Kv 1 99 (ht.want [60]));have m:=hx _ _ _ h1 (Kr.want _ (Kr.JR t1));refine⟨Vm _ _ _,m.1,λhb=>?_⟩;have g1:=hk _ _ _ h1 hb;have l1:=QO g1;have g2:=MI _ _ g1;obtain⟨l2,l3⟩:=UA g2 t1;have g3:=RO _ g2;have l4:=QO g3;have g4:=MI _ _ g3;have l5:=zhL g4;have l6:=QO (WZ _ _ _ g4);obtain⟨d,d1,d2⟩:=m.2 hb;exact⟨l3,d,by simp only at *;omega,d2⟩
theorem zlA{ex:Rd}(hx:Qc ex)(hk:MJ ex)(c:Bool):∀(k:Nat)(l:List (Nat × List Tok))(es:List Ex)(st s0:St)(q:List (Nat × List Tok) × List Ex × St),NI ex c k l es st=some q->Kr st->es.length=l.length ->
  (st.bad=none->(∀x∈l,x.1<=99/\∀t∈x.2,t.s≠[])/\∃b,b+(l.map λx=>1+x.2.length).sum+2*st.rest.length<=2*s0.rest.length/\O5 b es) ->
  Kr q.2.2/\q.1≠[]/\q.2.1.length=q.1.length/\(q.2.2.bad=none->(∀x∈q.1,x.1<=99/\∀t∈x.2,t.s≠[])/\∃b,b+(q.1.map λx=>1+x.2.length).sum+2*q.2.2.rest.length<=2*s0.rest.length/\O5 b q.2.1)
 |0,_,_,_,_,_,h,_,_,_=>by simp[NI]at h
 |k+1,l,es,st,s0,q,h,ht,hl,he=>by
  rw[NI]at h;simp only[JM]at h;obtain⟨r,h1,h2⟩:=h;obtain⟨m0,m1,m2⟩:=zts hx hk h1 ht;have hs:r.2.2.bad=none->(∀x∈l++[r.1],x.1<=99/\∀t∈x.2,t.s≠[])/\∃b,b+((l++[r.1]).map λx=>1+x.2.length).sum+2*r.2.2.rest.length<=2*s0.rest.length/\O5 b (es++[r.2.1]):=λhb=>by
   obtain⟨e1,b,e2,e3⟩:=he (Vv hk h1 hb);obtain⟨f1,d,f2,f3⟩:=m2 hb;refine⟨λx hm=>?_,b+d,?_,e3.snoc f3⟩
   .rcases Ni.mp hm with hm|hm
    .exact e1 x hm
    .rw[NA.mp hm];exact⟨m0,f1⟩
   .rw[SO,TH];simp only[Ki,qO,MW,Jv];omega
  have aC:(es++[r.2.1]).length=(l++[r.1]).length:=by simp[hl]
  split at h2
  .next hi=>unfold NL at hi;simp only[OR]at hi;have a:=RV hi.1 (by decide);refine zlA hx hk c k _ _ _ s0 _ h2 m1.qM aC (λhb=>?_);obtain⟨e1,b,e2,e3⟩:=hs (OV _ hb);exact⟨e1,b,by omega,e3⟩
  .cases h2;exact⟨m1,by simp,aC,hs⟩
theorem zrF(hx:Qc ex)(hk:MJ ex)(h:Qr ex k c st=some q)(ht:Kr st):Kr q.2/\(q.2.bad=none->∃b,b+2*q.2.rest.length<=2*st.rest.length/\WB b q.1):=by unfold Qr at h;simp only[JM,IA]at h;obtain⟨r,h1,p,h2,rfl⟩:=h;have m:=hx _ _ _ h1 ht;obtain⟨a1,a2,a3,a4⟩:=zlA hx hk c k _ _ _ (want Nt r.2) _ h2 (m.1.want _) rfl (λ_=>⟨by simp,0,by simp,O5.nil⟩);refine⟨a1,λhb=>?_⟩;have g1:=Yp hk c k _ _ _ _ h2 hb;have l1:=QO g1;obtain⟨e1,b,e2,e3⟩:=a4 hb;obtain⟨d,d1,d2⟩:=m.2 (MI _ _ g1);exact⟨b+d+(p.1.map λx=>1+x.2.length).sum+1,by simp only at *;omega,zx1 a2 e1 a3 e3 d2⟩
theorem ztt(hx:Qc ex)(hk:MJ ex)(h:Qu ex c st=some q)(ht:Kr st):Kr q.2/\(q.2.bad=none->∃b,b+2*q.2.rest.length<=2*st.rest.length/\WB b q.1):=by
 unfold Qu at h;simp only[JM,IA]at h;obtain⟨r,h1,rfl⟩:=h;have m:=hx _ _ _ h1 (Kr.want _ (Kr.JR ht.IG));refine⟨m.1,λhb=>?_⟩;have g1:=hk _ _ _ h1 hb;have l1:=QO g1;have g2:=MI _ _ g1;obtain⟨l2,l3⟩:=UA g2 ht.IG;have g3:=RO _ g2;obtain⟨l4,l5⟩:=R0 g3 ht;obtain⟨d,d1,d2⟩:=m.2 hb;refine⟨d+((IG st).1::(JR (IG st).2).1).length+1,by simp only[Kh]at *;omega,zyD (by simp) (λt hm=>?_) d2⟩;rcases Mz.1 hm with rfl|hm
 .exact l5
 .exact l3 t hm
theorem zrE(hx:Qc ex)(hk:MJ ex)(k:Nat):Qc (NU ex k):=by
 intro c st q h ht;unfold NU at h;have go:∀{s:List UInt8},st.is s=true->s≠[]->Kr q.2/\(q.2.bad=none->∃b,b+2*q.2.rest.length<=2*st.qM.rest.length/\WB b q.1)->RZ st q:=λhi hs m=>by have a:=RV hi hs;refine⟨m.1,λhb=>?_⟩;obtain⟨b,b1,b2⟩:=m.2 hb;exact⟨b,by omega,b2⟩
 split at h
 .next hi=>exact go hi (by decide) (ztu hx hk h ht.qM)
 .split at h
  .next hi=>exact go hi (by decide) (zrF hx hk h ht.qM)
  .split at h
   .next hi=>exact go hi (by decide) (ztt hx hk h ht.qM)
   .exact zrG hx hk h ht
theorem zlD:∀n,Qc (Mn n)
 |0=>λ_ _ _ h=>by simp[Mn]at h
 |n+1=>zrE (zlD n) (Ux n) n
def zwJ (b:Nat) (l:List By):Prop:=∃m,(∀x∈l,Dp m x.e/\∀t∈x.params,t.s≠[])/\(l.map λx=>Cp.wt m x.e+x.params.length+1).sum<=b
theorem zgp{n:Nat}:∀(k:Nat)(l:List By)(st s0:St)(q:List By × St),N7 (Mn n) k l st=some q->Kr st->(st.bad=none->∃b,b+2*st.rest.length<=2*s0.rest.length/\zwJ b l)->q.2.bad=none->zwJ (2*s0.rest.length) q.1
 |0,_,_,_,_,h,_,_,_=>by simp[N7]at h
 |k+1,l,st,s0,q,h,ht,hl,hb=>by
  rw[N7]at h;split at h
  .simp only[JM]at h;obtain⟨r,h1,h2⟩:=h;unfold Qs at h1;simp only[JM,IA]at h1;obtain⟨p,h3,rfl⟩:=h1;have m:=zlD n _ _ _ h3 (Kr.want _ (Kr.JR ht.IG));refine zgp k _ _ s0 _ h2 (m.1.want _) (λaw=>?_) hb;have w1:=QO aw;have hp:=MI _ _ aw;have g1:=Ux n _ _ _ h3 hp;have l1:=QO g1;have g2:=MI _ _ g1;obtain⟨l2,l3⟩:=UA g2 ht.IG;have g3:=RO _ g2;obtain⟨l4,l5⟩:=R0 g3 ht;obtain⟨b,b1,m1,e1,e2⟩:=hl (Ss _ g3);obtain⟨d,d1,m2,f1,f2⟩:=m.2 hp;refine⟨b+(d+(JR (IG st).2).1.length+1),by simp only at *;omega,m1+m2,λx hx=>?_,?_⟩
   .rcases Ni.mp hx with hx|hx
    .exact⟨(e1 x hx).1.le (by omega),(e1 x hx).2⟩
    .rw[NA.mp hx];exact⟨f1.le (by omega),l3⟩
   .rw[SO,TH];have e3:(l.map λx=>Cp.wt (m1+m2) x.e+x.params.length+1)=l.map λx=>Cp.wt m1 x.e+x.params.length+1:=U3 (λx hx=>by rw[JD (e1 x hx).1])
    rw[e3];have e4:=JD f1 (show m2<=m1+m2 by omega);simp only[Ki,qO,MW,Jv];omega
  .cases h;obtain⟨b,b1,m,e1,e2⟩:=hl hb;exact⟨m,e1,by simp only at *;omega⟩
end Th
end
end Go.Proofs.YtgahgkddaljmkaaGreatDoor
