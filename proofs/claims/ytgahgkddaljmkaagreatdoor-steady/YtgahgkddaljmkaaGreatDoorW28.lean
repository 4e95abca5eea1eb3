/- Cmp44 .. Cmp45 -/
import Derived.Test.YtgahgkddaljmkaaGreatDoorW27
set_option maxRecDepth 100000
set_option maxHeartbeats 4000000
namespace Go.Proofs.YtgahgkddaljmkaaGreatDoor
open Tryz
open Go.RowKit Go.Shelf
theorem sum8(N:Nat)(l:List Th.Ex):(l.map fun d=>8*Cp.wt N d+1).sum=8*(l.map (Cp.wt N)).sum+l.length:=by
 induction l with
 |nil=>rfl
 |cons d l ih=>simp only[zza,zzd,zy8,ih];omega
variable {M N n:Nat}
variable {Z:Nat->Prop}
variable {w:World}
variable {cb bb below:Nat}
variable {rv sv kv:Value}
variable {fns:List Cp.Nm}
variable {q:Cp.Bs}
variable {e:Th.Ex}
theorem zp8(hW:zbi M N n)(hn:n+1<=N){u1 u2:Value}{d1 d2:Th.Ex}(h:BS Z w cb bb rv sv kv fns q)(hk:e.kind=6)(k1:e.kids=[d1,d2])(k3:Rep Z w n u1 d1)(k4:Rep Z w n u2 d2)(hf:Fit M N fns q e)(hb:below+(M+8)*Cp.wt N e<=1000000000):
  Calls prog 54 #[.pointer (some ⟨bb,0,none⟩),.iface 166 (.agg #[.string ⟨e.tok.s.toArray⟩,u1,u2]),.int .i64 below] w fun r w'=>r=.returned (.tuple #[])/\Did Z w cb bb rv sv kv fns (Cp.work (Cp.free N) fns (n+1) e below q) w':=by
 obtain ⟨t1,x1,rfl⟩:=zah k3;obtain ⟨t2,x2,rfl⟩:=zah k4;have hw:=hf.wt;have hm:=hf.mm;have aN:=hf.cl;have aK:=hf.sl;have cV:=hf.bl;have bZ:=hf.fl;have E3:=hf.prod;have dj:=hf.dp.wt;rw[k1]at dj;simp at dj;have ux:=hf.dp.kid (k:=d1) (by simp[k1]);have pP:=hf.dp.kid (k:=d2) (by simp[k1]);have ak:=hf.dp.free;rw[k1]at ak;simp[hk]at ak;have mQ:(M+8)*(Cp.wt N d1+Cp.wt N d2+1)<=(M+8)*Cp.wt N e:=zzp _ (by omega);rw[zzI,zzI]at mQ;have aC:=Cp.zaZ N d2;obtain ⟨names,bu⟩:∃ names,names=Cp.zai q.zac (Cp.free N d2):=⟨_,rfl⟩;have ev:=Cp.zbg q.zac (Cp.free N d2);rw[<-bu]at ev;obtain ⟨sl,jx⟩:∃ sl:List Cp.Nm,sl=([]::names).reverse:=⟨_,rfl⟩;have s8:sl.length=names.length+1:=by rw[jx];simp
 obtain ⟨R,hR⟩:∃ R,R=Cp.zjJ (Cp.work (Cp.free N) fns n d2 2) ⟨e.tok.s.toArray⟩ ⟨q.blocks,sl,[]⟩:=⟨_,rfl⟩;have DY:R.blocks.length<=q.blocks.length+8*Cp.wt N d2:=by
  have:=(Cp.zaK M N fns n d2 2 (Cp.Bs.push ⟨q.blocks++[(2,[.comp ⟨e.tok.s.toArray⟩,.enter])],sl++[[]],[.zbX,.push (sl.length-1)]⟩ (.wait q.blocks.length)) pP (by omega)).2.2;rw[hR];unfold Cp.zjJ;simp only[Cp.Bs.push,Cp.Bs.write,zyT,zy0,zzb,zy7]at this ⊢;omega
 have he:Cp.work (Cp.free N) fns (n+1) e below q=Cp.work (Cp.free N) fns n d1 (below+names.length+1) ((Cp.Bs.zak fns ⟨R.blocks++[(sl.length,R.code)],q.zac,q.code⟩ names).push (.wait R.blocks.length)):=by
  rw[Cp.work,if_neg (by omega),if_pos hk,k1];simp only;rw[<-bu,<-jx,hR];rfl
 rw[he];have iL:∀ x∈Cp.free N d2,x≠[]/\(x∈names\/x∈fns):=fun x hx=>by
  obtain ⟨c1,c2⟩:=hf.nm x (by rw[ak];exact Cp.zaw.2 (.inr hx));refine ⟨c1,?_⟩;rcases c2 with c2|c2
  ·exact .inl (by rw[bu];exact Cp.zbK.2 ⟨hx,c2⟩)
  ·exact .inr c2
 refine zk8 (blk:=R.blocks.length) (bl:=R.blocks++[(sl.length,R.code)]) (names:=names) h k3 (fun W fW=>zgU N ((k4.fr0 fW).le (by omega)) (by omega)) bu (by omega) (by omega) ?_ ?_
 ·intro Z1 W nv hZ fW aE af;refine ztY hW jx hR aE (k4.frz fW (by simp) (fun k _ x=>hZ k x)) af (fun b2 cd aw rV=>?_) (by omega) (by omega) (by omega) (by omega);refine ⟨pP,by omega,hm,bZ,fun x hx=>?_,by simp only;omega,by simp only[zyT,zy0];omega,by simp only;omega⟩;obtain ⟨c1,c2⟩:=iL x hx;refine ⟨c1,?_⟩;rcases c2 with c2|c2
  ·exact .inl (by simp[jx,c2])
  ·exact .inr c2
 ·intro Z1 W bh bf cA nv aA dd af;obtain ⟨c,u1,u2⟩:=Cp.zd6 fns ⟨R.blocks++[(sl.length,R.code)],q.zac,q.code⟩ names;refine zqY hW aA dd af ?_ (by simp only;omega) (by simp only;omega) (by omega) ?_ (by omega)
  ·intro x hx;rw[bu]at hx;obtain ⟨g1,g2⟩:=Cp.zbK.1 hx;exact ⟨(iL x g1).1,fun hs=>absurd g2 (Cp.zca.1 hs)⟩
  ·rw[u1];refine hf.part ux (by omega) (fun x hx=>?_) (by simp only[Cp.Bs.push,zyT,zy0];omega) (by simp only[Cp.Bs.push,zyT,zy0,zzz];omega) (by simp only[Cp.Bs.push,zyT,zy0];omega);obtain ⟨c1,c2⟩:=hf.nm x (by rw[ak];exact Cp.zaw.2 (.inl hx));refine ⟨c1,?_⟩;simp only[Cp.Bs.push];rcases c2 with c2|c2
   ·exact .inl (by simp[c2])
   ·exact .inr c2
theorem zkq(hW:zbi M N n)(hn:n+1<=N){cv av:Value}{s:Th.Ex}{ag:List Th.Ex}{nvs bvs:List Value}(h:BS Z w cb bb rv sv kv fns q)(hk:e.kind=9)(k1:e.kids=s::ag)(k3:ag.length=e.zao.length)(k4:nvs.length=e.zao.length)(k5:bvs.length=e.zao.length)(k6:Row Z w 240 3 av e.zao.length (za7 e.zao nvs bvs))(k7:∀ (i:Nat) (a:Nat × List Th.Tok) (nv:Value),e.zao[i]?=some a->nvs[i]?=some nv->Row Z w 88 2 nv a.2.length (zaj a.2))(k8:∀ (i:Nat) (bv:Value) (p:Th.Ex),bvs[i]?=some bv->ag[i]?=some p->Rep Z w n bv p)(k9:Rep Z w n cv s)(hf:Fit M N fns q e)(hb:below+(M+8)*Cp.wt N e<=1000000000):
  Calls prog 54 #[.pointer (some ⟨bb,0,none⟩),.iface 173 (.agg #[cv,av]),.int .i64 below] w fun r w'=>r=.returned (.tuple #[])/\Did Z w cb bb rv sv kv fns (Cp.work (Cp.free N) fns (n+1) e below q) w':=by
 obtain ⟨t1,x1,rfl⟩:=zah k9;obtain ⟨pp,pn,pc,rfl⟩:=zae k6;have hw:=hf.wt;have hm:=hf.mm;have aN:=hf.cl;have aK:=hf.sl;have cV:=hf.bl;have bZ:=hf.fl;have E3:=hf.prod;have dj:=hf.dp.wt;rw[k1]at dj;simp only[zza,zzd]at dj;have ux:=hf.dp.kid (k:=s) (by simp[k1]);have pP:∀ d∈ag,Cp.Dp N d:=fun d hd=>hf.dp.kid (by simp[k1,hd])
 have ak:=hf.dp.free;rw[k1]at ak;simp[hk]at ak;have mQ:(M+8)*(Cp.wt N s+1+(ag.map (Cp.wt N)).sum)<=(M+8)*Cp.wt N e:=zzp _ (by omega);rw[zzI,zzI]at mQ;have aU:=Cp.zbN (Cp.free N) (Cp.wt N) (Cp.zaZ N) e.zao ag [];simp only[zzm,zzG]at aU;have Ea:=zl4 e.zao;obtain ⟨names,bu⟩:∃ names,names=Cp.zai q.zac (Cp.zas (Cp.free N) e.zao ag []):=⟨_,rfl⟩;have ev:=Cp.zbg q.zac (Cp.zas (Cp.free N) e.zao ag []);rw[<-bu]at ev;obtain ⟨sl,jx⟩:∃ sl:List Cp.Nm,sl=([]::names).reverse:=⟨_,rfl⟩;obtain ⟨R,hR⟩:∃ R,R=(Cp.armsOf (Cp.work (Cp.free N) fns n) names e.zao ag ⟨q.blocks,sl,[]⟩ []).1.write (.choose (Cp.armsOf (Cp.work (Cp.free N) fns n) names e.zao ag ⟨q.blocks,sl,[]⟩ []).2):=⟨_,rfl⟩;have DY:R.blocks.length<=q.blocks.length+8*(ag.map (Cp.wt N)).sum:=by
  have:=(Cp.zeH (Cp.zaK M N fns n) names e.zao ag ⟨q.blocks,sl,[]⟩ [] (fun d hd=>⟨pP d hd,by have:=Cp.zbj (f:=Cp.wt N) hd;omega⟩)).1;rw[hR];exact this
 have he:Cp.work (Cp.free N) fns (n+1) e below q=Cp.work (Cp.free N) fns n s (below+names.length+1) ((Cp.Bs.zak fns ⟨R.blocks++[(sl.length,R.code)],q.zac,q.code⟩ names).push (.wait R.blocks.length)):=by
  rw[Cp.work,if_neg (by omega),if_neg (by omega),if_pos hk,k1];simp only;rw[<-bu,<-jx,hR];rfl
 rw[he];have lE:=sum8 N ag;have iL:∀ x∈Cp.zas (Cp.free N) e.zao ag [],x≠[]/\(x∈names\/x∈fns):=fun x hx=>by
  obtain ⟨c1,c2⟩:=hf.nm x (by rw[ak];exact Cp.zaw.2 (.inr hx));refine ⟨c1,?_⟩;rcases c2 with c2|c2
  ·exact .inl (by rw[bu];exact Cp.zbK.2 ⟨hx,c2⟩)
  ·exact .inr c2
 refine zuP (blk:=R.blocks.length) (bl:=R.blocks++[(sl.length,R.code)]) (names:=names) (l:=Cp.zas (Cp.free N) e.zao ag []) h k9 (fun W fW=>?_) bu (by omega) (by omega) ?_ ?_
 ·refine zf8 (g:=Cp.wt N) (Cp.zaZ N) k3 k4 k5 (Row.frc k6 fW (by simp)) (fun i a nv hi hv=>⟨Row.frc (k7 i a nv hi hv) fW (by simp),by have:=ziL hi;omega⟩) (fun i bv p hi hp=>⟨zah (k8 i bv p hi hp),fun W' bQ=>?_⟩) (by omega) (by omega);exact zgU N ((((k8 i bv p hi hp).fr0 fW).fr0 bQ).le (by omega)) (by have:=Cp.zbj (f:=Cp.wt N) (zy1 hp);omega)
 ·intro Z1 W nv hZ fW aE af;refine zu7 hW jx hR aE k3 k4 k5 (k6.frz fW (by simp) (fun k _ x=>hZ k x)) af (fun i a nv hi hv=>(k7 i a nv hi hv).frz fW (by simp) (fun k _ x=>hZ k x)) (fun i bv p hi hp=>(k8 i bv p hi hp).frz fW (by simp) (fun k _ x=>hZ k x)) (hf.dp.zea.k9 hk).1 (fun d q' hd=>?_) (fun i a d b hi hd iC=>?_) (by rw[lE];omega) (by omega) (by omega) (by omega)
  ·have:=(Cp.zaK M N fns n d 0 q' (pP d hd) (by have:=Cp.zbj (f:=Cp.wt N) hd;omega)).2.2;omega
  ·have rZ:=zy1 hd;have r6:=Cp.zbj (f:=Cp.wt N) rZ;have Gu:=ziL hi;have cu:=Cp.zcs a.2;have GM:(M+8)*Cp.wt N d<=(M+8)*(ag.map (Cp.wt N)).sum:=zzp _ r6;refine ⟨⟨pP d rZ,by omega,hm,bZ,fun x hx=>?_,by simp only[zzm];omega,by simp only[zy4,zyT];omega,iC⟩,by omega⟩;by_cases fT:x∈Th.texts a.2
   ·have aH:x≠[]:=by
     obtain ⟨t,h1,h2⟩:=zz1.1 fT;rw[<-h2];exact (hf.dp.zea.am a (zy1 hi)).2 t h1
    exact ⟨aH,.inl (by simp[fT])⟩
   ·obtain ⟨c1,c2⟩:=iL x (Cp.zcL.2 (.inr ⟨i,a,d,hi,hd,hx,fT⟩));refine ⟨c1,?_⟩;rcases c2 with c2|c2
    ·exact .inl (by simp[c2])
    ·exact .inr c2
 ·intro Z1 W bh bf cA nv aA dd af;obtain ⟨c,u1,u2⟩:=Cp.zd6 fns ⟨R.blocks++[(sl.length,R.code)],q.zac,q.code⟩ names;have Gx:=ux.pos;refine zqY hW aA dd af ?_ (by simp only;omega) (by simp only;omega) (by omega) ?_ (by omega)
  ·intro x hx;rw[bu]at hx;obtain ⟨g1,g2⟩:=Cp.zbK.1 hx;exact ⟨(iL x g1).1,fun hs=>absurd g2 (Cp.zca.1 hs)⟩
  ·rw[u1];refine hf.part ux (by omega) (fun x hx=>?_) (by simp only[Cp.Bs.push,zyT,zy0];omega) (by simp only[Cp.Bs.push,zyT,zy0,zzz];omega) (by simp only[Cp.Bs.push,zyT,zy0];omega);obtain ⟨c1,c2⟩:=hf.nm x (by rw[ak];exact Cp.zaw.2 (.inl hx));refine ⟨c1,?_⟩;simp only[Cp.Bs.push];rcases c2 with c2|c2
   ·exact .inl (by simp[c2])
   ·exact .inr c2
theorem Cp.zig(wk:Th.Ex->Nat->Cp.Bs->Cp.Bs)(fr:Th.Ex->List Cp.Nm)(p:Th.Ex):∀ (l:List Th.Ex) (b:Cp.Bs) (a:List (List Cp.Nm)),Cp.makeAll wk fr (l++[p]) b a =
  ((Cp.zal wk fr (Cp.makeAll wk fr l b a).1 p).1.write (.hold (Cp.zal wk fr (Cp.makeAll wk fr l b a).1 p).2.1 (Cp.zal wk fr (Cp.makeAll wk fr l b a).1 p).2.2.length),(Cp.makeAll wk fr l b a).2++[(Cp.zal wk fr (Cp.makeAll wk fr l b a).1 p).2.2])
 |[],b,a=>rfl
 |x::l,b,a=>by
  rw[zy7,Cp.makeAll,Cp.makeAll];exact Cp.zig wk fr p l _ _
theorem Cp.zib(fns:List Cp.Nm)(x:List Cp.Nm):∀ (l:List (List Cp.Nm)) (i:Nat) (b:Cp.Bs),Cp.zbf fns i (l++[x]) b=((((Cp.zbf fns i l b).zak fns x).drop x.length).write (.fill (i+l.length) x.length))
 |[],i,b=>rfl
 |y::l,i,b=>by
  rw[zy7,Cp.zbf,Cp.zbf,Cp.zib fns x l (i+1) _];rw[show i+1+l.length=i+(y::l).length by simp;omega]
theorem zj1{α:Type}{l:List α}{i:Nat}{p:α}(h:l[i]?=some p):l.take (i+1)=l.take i++[p]:=by
 rw[zAn,h];rfl
theorem Cp.zqW(f:Th.Ex->Nat){l:List Th.Ex}{i:Nat}{p:Th.Ex}(h:l[i]?=some p):((l.take i).map f).sum+f p<=(l.map f).sum:=by
 have h1:(l.map f).sum=((l.take (i+1)).map f).sum+((l.drop (i+1)).map f).sum:=by rw[<-zz5,<-zz3,zAj]
 rw[zj1 h,zz3,zz5]at h1;simp only[zza,List.map_nil,zzd,List.sum_nil]at h1;omega
theorem zfD{l:List Th.Tok}(h:∀ t∈l,t.s≠[]){x:Cp.Nm}(hx:x∈Th.texts l):x≠[]:=by
 obtain ⟨t,h1,h2⟩:=zz1.1 hx;rw[<-h2];exact h t h1
variable {d:Th.Ex}
variable {parts:List Th.Ex}
theorem ztr{wk:Th.Ex->Nat->Cp.Bs->Cp.Bs}(hw:Cp.zb8 M N wk)(hk:e.kind=7\/e.kind=8)(k1:e.kids=d::parts)(k3:parts.length=e.names.length)(hf:Fit M N fns q e):Fit M N fns (Cp.zdq wk (Cp.free N) fns e parts q) d:=by
 obtain ⟨a1,a2,a3⟩:=Cp.zdU hw fns k1 k3 q hf.dp hf.wt;have dj:=hf.dp.wt;rw[k1]at dj;simp only[zza,zzd]at dj;have mQ:(M+8)*(Cp.wt N d+e.names.length+1)<=(M+8)*Cp.wt N e:=zzp _ (by omega);rw[zzI,zzI]at mQ;have ev:e.names.length<=(M+8)*e.names.length:=zzX _ (by omega);have cu:=Cp.zcs e.names;refine hf.part (hf.dp.kid (by simp[k1])) (by omega) (fun x hx=>?_) (by omega) (by rw[a2,zyT];omega) (by omega);rw[a2];by_cases fT:x∈Th.texts e.names
 ·exact ⟨zfD hf.dp.zea.nm fT,.inl (by simp[fT])⟩
 ·have ak:=hf.dp.free;rw[k1]at ak;have tE:x∈Cp.free N e:=by
   rw[ak];rcases hk with hk|hk
   ·simp only[hk];simp[Cp.zaw,Cp.zaN,hx,fT]
   ·simp only[hk];simp[Cp.zaw,Cp.zaN,hx,fT]
  obtain ⟨c1,c2⟩:=hf.nm x tE;refine ⟨c1,?_⟩;rcases c2 with c2|c2
  ·exact .inl (by simp[c2])
  ·exact .inr c2
theorem zvP(hW:zbi M N n)(hn:n+1<=N){pv bv:Value}{pvs:List Value}(h:BS Z w cb bb rv sv kv fns q)(hk:e.kind=8)(k1:e.kids=d::parts)(k3:parts.length=e.names.length)(k4:pvs.length=e.names.length)(k5:Row Z w 312 3 pv e.names.length (zaM e.names pvs))(k6:∀ (i:Nat) (bv:Value) (p:Th.Ex),pvs[i]?=some bv->parts[i]?=some p->Rep Z w n bv p)(k7:Rep Z w n bv d)(hf:Fit M N fns q e):
  Calls prog 94 #[.pointer (some ⟨bb,0,none⟩),.agg #[.bool true,pv,bv],.int .i64 0] w fun r w'=>r=.returned (.tuple #[])/\Did Z w cb bb rv sv kv fns (Cp.zkD (Cp.work (Cp.free N) fns n) (Cp.free N) fns e q) w':=by
 obtain ⟨pp,pn,pc,rfl⟩:=zae k5;obtain ⟨bt,bx,rfl⟩:=zah k7;have aX:=Cp.zaK M N fns n;have oW:=ztr aX (.inr hk) k1 k3 hf;have Et:=oW.prod;have hw:=hf.wt;have hm:=hf.mm;have aN:=hf.cl;have aK:=hf.sl;have bZ:=hf.fl;have dj:=hf.dp.wt;rw[k1]at dj;simp only[zza,zzd]at dj;have cu:=Cp.zcs e.names;have mQ:(M+8)*(Cp.wt N d+(parts.map (Cp.wt N)).sum+e.names.length+1)<=(M+8)*Cp.wt N e:=zzp _ (by omega);rw[zzI,zzI,zzI]at mQ;have ev:e.names.length<=(M+8)*e.names.length:=zzX _ (by omega);have cQ:∀ x∈parts,Cp.Dp N x/\Cp.wt N x<=M:=fun x hx=>⟨hf.dp.kid (by simp[k1,hx]),by have:=Cp.zbj (f:=Cp.wt N) hx;omega⟩
 have bp:0<e.names.length:=zzA.2 (hf.dp.zea.k7 (.inr hk)).1;obtain ⟨b,dq⟩:∃ b:Cp.Bs,b=⟨q.blocks,q.zac++Th.texts e.names,q.code⟩:=⟨_,rfl⟩;have gG:b.zac=q.zac++Th.texts e.names:=by rw[dq]
 have Ed:b.code=q.code:=by rw[dq]
 have iC:b.blocks=q.blocks:=by rw[dq]
 have Ee:b.code.length=q.code.length:=by rw[Ed]
 have Ei:b.zac.length=q.zac.length+e.names.length:=by rw[gG,zyT,cu]
 rw[Cp.zei k1];have hin:Cp.zdq (Cp.work (Cp.free N) fns n) (Cp.free N) fns e parts q=Cp.zbf fns q.zac.length (Cp.makeAll (Cp.work (Cp.free N) fns n) (Cp.free N) parts b []).2 (Cp.makeAll (Cp.work (Cp.free N) fns n) (Cp.free N) parts b []).1:=by
  unfold Cp.zdq;rw[if_pos hk,dq]
 obtain ⟨m1,m2,m3,m4,m5⟩:=Cp.zg2 aX parts b [] cQ (by simp);have xL:∀ i,(Cp.makeAll (Cp.work (Cp.free N) fns n) (Cp.free N) (parts.take i) b []).1.blocks.length<=b.blocks.length+8*((parts.take i).map (Cp.wt N)).sum/\(Cp.makeAll (Cp.work (Cp.free N) fns n) (Cp.free N) (parts.take i) b []).1.zac=b.zac/\(Cp.makeAll (Cp.work (Cp.free N) fns n) (Cp.free N) (parts.take i) b []).1.code.length=b.code.length+(parts.take i).length:=fun i=>by
  obtain ⟨c1,c2,c3,_,_⟩:=Cp.zg2 aX (parts.take i) b [] (fun x hx=>cQ x (zAp hx)) (by simp);exact ⟨c1,c2,c3⟩
 have aY:∀ i,i<e.names.length->∃ p,parts[i]?=some p/\p∈parts:=fun i hi=>⟨parts[i]'(by omega),zyM (by omega),List.getElem_mem _⟩
 rw[zzb]at m4;have hmul:∀ i,i<=e.names.length->(M+1)*i+e.names.length<=(M+8)*e.names.length:=fun i hi=>by
  have h1:(M+1)*i<=(M+1)*e.names.length:=zzp _ hi;have h2:(M+8)*e.names.length=(M+1)*e.names.length+7*e.names.length:=by rw[<-Nat.add_mul]
  omega
 have iY:∀ i,i<=e.names.length->(Cp.zbf fns q.zac.length ((Cp.makeAll (Cp.work (Cp.free N) fns n) (Cp.free N) parts b []).2.take i) (Cp.makeAll (Cp.work (Cp.free N) fns n) (Cp.free N) parts b []).1).zac=b.zac/\(Cp.zbf fns q.zac.length ((Cp.makeAll (Cp.work (Cp.free N) fns n) (Cp.free N) parts b []).2.take i) (Cp.makeAll (Cp.work (Cp.free N) fns n) (Cp.free N) parts b []).1).code.length<=b.code.length+(M+8)*e.names.length:=fun i hi=>by
  obtain ⟨c1,c2,c3⟩:=Cp.zje (M:=M) fns ((Cp.makeAll (Cp.work (Cp.free N) fns n) (Cp.free N) parts b []).2.take i) q.zac.length (Cp.makeAll (Cp.work (Cp.free N) fns n) (Cp.free N) parts b []).1 (fun x hx=>m5 x (zAp hx));have hl:((Cp.makeAll (Cp.work (Cp.free N) fns n) (Cp.free N) parts b []).2.take i).length=i:=by rw[m4];simp;omega
  rw[hl]at c3;have:=hmul i hi;exact ⟨c2.trans m2,by omega⟩
 refine zvN hW h k7 (fun Z1 W hZ fW aA=>?_) oW (by omega);rw[hin];have ll:Cp.zbf fns q.zac.length (Cp.makeAll (Cp.work (Cp.free N) fns n) (Cp.free N) parts b []).2 (Cp.makeAll (Cp.work (Cp.free N) fns n) (Cp.free N) parts b []).1=Cp.zbf fns q.zac.length ((Cp.makeAll (Cp.work (Cp.free N) fns n) (Cp.free N) parts b []).2.take e.names.length) (Cp.makeAll (Cp.work (Cp.free N) fns n) (Cp.free N) parts b []).1:=by
  rw[zy9 (by rw[m4];simp;omega)]
 rw[ll];refine zis (n:=n) (parts:=parts) (pvs:=pvs) (l:=e.names) (st:=fun i=>(Cp.makeAll (Cp.work (Cp.free N) fns n) (Cp.free N) (parts.take i) b []).1)
  (qc:=fun i=>(Cp.zal (Cp.work (Cp.free N) fns n) (Cp.free N) (Cp.makeAll (Cp.work (Cp.free N) fns n) (Cp.free N) (parts.take i) b []).1 (parts.getD i Th.ex0)).1)
  (bk:=fun i=>(Cp.zal (Cp.work (Cp.free N) fns n) (Cp.free N) (Cp.makeAll (Cp.work (Cp.free N) fns n) (Cp.free N) (parts.take i) b []).1 (parts.getD i Th.ex0)).2.1)
  (nms:=fun i=>Cp.zai b.zac (Cp.free N (parts.getD i Th.ex0)))
  (ft:=fun i=>Cp.zbf fns q.zac.length ((Cp.makeAll (Cp.work (Cp.free N) fns n) (Cp.free N) parts b []).2.take i) (Cp.makeAll (Cp.work (Cp.free N) fns n) (Cp.free N) parts b []).1)
  aA k3 k4 (k5.frz fW (by simp) (fun k _ x=>hZ k x)) (fun i bv p hi hp=>(k6 i bv p hi hp).frz fW (by simp) (fun k _ x=>hZ k x)) ?_ ?_ ?_ ?_ ?_ ?_ ?_ (by omega) bp (by omega) (by omega)
 ·simp only[zzR,Cp.makeAll];exact dq
 ·intro i e' Z2 W2 bh bf cA v lZ aw cg;have hg:parts.getD i Th.ex0=e':=by rw[zzW,lZ];rfl
  have fO:=zy1 lZ;obtain ⟨c1,c2,c3⟩:=xL i;have dY:=Cp.zqW (Cp.wt N) lZ;have qf:(parts.take i).length<=e.names.length:=by simp;omega
  have jo:(M+8)*Cp.wt N e'<=(M+8)*(parts.map (Cp.wt N)).sum:=zzp _ (by omega);have hC:=zeL hW hn aw cg (hf.part (cQ e' fO).1 (by omega) (fun x hx=>?_) (by omega) (by rw[c2,gG,zyT];omega) (by rw[iC]at c1;omega))
  ·unfold znk at hC;simp only[hg];rw[c2]at hC;exact hC
  ·rw[c2,gG];by_cases fT:x∈Th.texts e.names
   ·exact ⟨zfD hf.dp.zea.nm fT,.inl (by simp[fT])⟩
   ·have ak:=hf.dp.free;rw[k1]at ak;simp only[hk]at ak;simp at ak;obtain ⟨g1,g2⟩:=hf.nm x (by
     rw[ak];exact Cp.zaw.2 (.inl (Cp.zaN.2 ⟨Cp.zbh.2 (.inr ⟨e',fO,hx⟩),fT⟩)))
    refine ⟨g1,?_⟩;rcases g2 with g2|g2
    ·exact .inl (by simp[g2])
    ·exact .inr g2
 ·intro i hi;obtain ⟨p,hp,pZ⟩:=aY i hi;have hg:parts.getD i Th.ex0=p:=by rw[zzW,hp];rfl
  obtain ⟨c1,c2,c3⟩:=xL i;obtain ⟨bl,Ej⟩:=Cp.zfr (Cp.work (Cp.free N) fns n) (Cp.free N) (Cp.makeAll (Cp.work (Cp.free N) fns n) (Cp.free N) (parts.take i) b []).1 p;have xq:(Cp.zal (Cp.work (Cp.free N) fns n) (Cp.free N) (Cp.makeAll (Cp.work (Cp.free N) fns n) (Cp.free N) (parts.take i) b []).1 p).2.2=Cp.zai b.zac (Cp.free N p):=by rw[Ej,c2]
  simp only[hg];rw[zj1 hp,Cp.zig];simp only;rw[xq]
 ·intro i hi;obtain ⟨p,hp,pZ⟩:=aY i hi;have hg:parts.getD i Th.ex0=p:=by rw[zzW,hp];rfl
  obtain ⟨c1,c2,c3⟩:=xL i;have qf:(parts.take i).length<=e.names.length:=by simp;omega
  simp only[hg];rw[(Cp.zck _ _ _ _).2];omega
 ·simp only[zzR,Cp.zbf];rw[zy9 (by omega)]
 ·intro i hi;obtain ⟨p,hp,pZ⟩:=aY i hi;have hg:parts.getD i Th.ex0=p:=by rw[zzW,hp];rfl
  have fB:(Cp.makeAll (Cp.work (Cp.free N) fns n) (Cp.free N) parts b []).2[i]?=some (Cp.zai b.zac (Cp.free N p)):=by rw[m4];simp[hp]
  have hl:((Cp.makeAll (Cp.work (Cp.free N) fns n) (Cp.free N) parts b []).2.take i).length=i:=by rw[m4];simp;omega
  simp only[hg];rw[zj1 fB,Cp.zib,hl]
 ·intro i hi;obtain ⟨p,hp,pZ⟩:=aY i hi;have hg:parts.getD i Th.ex0=p:=by rw[zzW,hp];rfl
  obtain ⟨c2,c3⟩:=iY i (by omega);have gK:=(cQ p pZ).2;have GA:=zyR (Cp.zbg b.zac (Cp.free N p)) (Cp.zaZ N p);simp only[hg];refine ⟨fun x hx=>?_,by omega,?_⟩
  ·rw[c2];obtain ⟨g1,g2⟩:=Cp.zbK.1 hx;refine ⟨?_,fun hs=>absurd g2 (Cp.zca.1 hs)⟩;by_cases fT:x∈Th.texts e.names
   ·exact zfD hf.dp.zea.nm fT
   ·have ak:=hf.dp.free;rw[k1]at ak;simp only[hk]at ak;simp at ak;exact (hf.nm x (by
     rw[ak];exact Cp.zaw.2 (.inl (Cp.zaN.2 ⟨Cp.zbh.2 (.inr ⟨p,pZ,g1⟩),fT⟩)))).1
  ·rw[c2];omega
theorem zrB(hW:zbi M N n)(hn:n+1<=N){pv bv:Value}{pvs:List Value}(h:BS Z w cb bb rv sv kv fns q)(hk:e.kind=7)(k1:e.kids=d::parts)(k3:parts.length=e.names.length)(k4:pvs.length=e.names.length)(k5:Row Z w 312 3 pv e.names.length (zaM e.names pvs))(k6:∀ (i:Nat) (bv:Value) (p:Th.Ex),pvs[i]?=some bv->parts[i]?=some p->Rep Z w n bv p)(k7:Rep Z w n bv d)(hf:Fit M N fns q e):
  Calls prog 94 #[.pointer (some ⟨bb,0,none⟩),.agg #[.bool false,pv,bv],.int .i64 0] w fun r w'=>r=.returned (.tuple #[])/\Did Z w cb bb rv sv kv fns (Cp.zkD (Cp.work (Cp.free N) fns n) (Cp.free N) fns e q) w':=by
 obtain ⟨pp,pn,pc,rfl⟩:=zae k5;obtain ⟨bt,bx,rfl⟩:=zah k7;have aX:=Cp.zaK M N fns n;have oW:=ztr aX (.inl hk) k1 k3 hf;have Et:=oW.prod;have hw:=hf.wt;have hm:=hf.mm;have aN:=hf.cl;have aK:=hf.sl;have bZ:=hf.fl;have dj:=hf.dp.wt;rw[k1]at dj;simp only[zza,zzd]at dj;have mQ:(M+8)*(Cp.wt N d+(parts.map (Cp.wt N)).sum+e.names.length+1)<=(M+8)*Cp.wt N e:=zzp _ (by omega);rw[zzI,zzI,zzI]at mQ;have ev:e.names.length<=(M+8)*e.names.length:=zzX _ (by omega);have cQ:∀ x∈parts,Cp.Dp N x/\Cp.wt N x<=M:=fun x hx=>⟨hf.dp.kid (by simp[k1,hx]),by have:=Cp.zbj (f:=Cp.wt N) hx;omega⟩
 have bp:0<e.names.length:=zzA.2 (hf.dp.zea.k7 (.inl hk)).1;rw[Cp.zei k1];have hin:Cp.zdq (Cp.work (Cp.free N) fns n) (Cp.free N) fns e parts q=⟨(parts.foldl (Cp.zaI (Cp.work (Cp.free N) fns n) (Cp.free N) fns) q).blocks,Go.splice (parts.foldl (Cp.zaI (Cp.work (Cp.free N) fns n) (Cp.free N) fns) q).zac q.zac.length (Th.texts e.names),(parts.foldl (Cp.zaI (Cp.work (Cp.free N) fns n) (Cp.free N) fns) q).code⟩:=by
  unfold Cp.zdq;rw[if_neg (by omega)]
 refine zrA hW h k7 (fun Z1 W hZ fW aA=>?_) oW (by omega);rw[hin];have x7:(parts.foldl (Cp.zaI (Cp.work (Cp.free N) fns n) (Cp.free N) fns) q).zac.length=q.zac.length+e.names.length:=by
  rw[(Cp.zcf aX fns parts q cQ).2.1];simp[k3]
 refine zvb (n:=n) (parts:=parts) (pvs:=pvs) (l:=e.names) rfl aA k3 k4 (k5.frz fW (by simp) (fun k _ x=>hZ k x)) (fun i bv p hi hp=>(k6 i bv p hi hp).frz fW (by simp) (fun k _ x=>hZ k x)) ?_ bp (by omega) x7 (by omega);intro i e' Z2 W2 bh bf cA v lZ aw cg;have fO:=zy1 lZ;have dY:=Cp.zqW (Cp.wt N) lZ;have xB:(parts.take i).length<=e.names.length:=by simp;omega
 have jo:(M+8)*Cp.wt N e'<=(M+8)*(parts.map (Cp.wt N)).sum:=zzp _ (by omega);have sH:(M+1)*(parts.take i).length<=(M+8)*e.names.length:=zAg (by omega) xB;obtain ⟨c1,c2,c3⟩:=Cp.zcf aX fns (parts.take i) q (fun x hx=>cQ x (zAp hx));refine zwT hW hn aw cg (hf.part (cQ e' fO).1 (by omega) (fun x hx=>?_) (by omega) (by rw[c2,zyT,zzz];omega) (by omega));have ak:=hf.dp.free;rw[k1]at ak;simp only[hk]at ak;simp at ak;obtain ⟨g1,g2⟩:=hf.nm x (by
  rw[ak];exact Cp.zaw.2 (.inl (Cp.zbh.2 (.inr ⟨e',fO,hx⟩))))
 refine ⟨g1,?_⟩;rw[c2];rcases g2 with g2|g2
 ·exact .inl (by simp[g2])
 ·exact .inr g2
theorem Cp.zhC(hk:e.kind=7\/e.kind=8)(q:Cp.Bs):Cp.work (Cp.free N) fns (n+1) e 0 q=Cp.zkD (Cp.work (Cp.free N) fns n) (Cp.free N) fns e q:=by
 rw[Cp.work,if_neg (by omega),if_neg (by omega),if_neg (by omega),if_pos hk,if_pos rfl]
theorem znf(hW:zbi M N n)(hn:n+1<=N){v:Value}(h:BS Z w cb bb rv sv kv fns q)(hk:e.kind=7\/e.kind=8)(hr:Rep Z w (n+1) v e)(hf:Fit M N fns q e)(hb:below+(M+8)*Cp.wt N e<=1000000000):
  Calls prog 54 #[.pointer (some ⟨bb,0,none⟩),v,.int .i64 below] w fun r w'=>r=.returned (.tuple #[])/\Did Z w cb bb rv sv kv fns (Cp.work (Cp.free N) fns (n+1) e below q) w':=by
 have hz:zu4 M N (n+1) e:=by
  intro Z w cb bb rv sv kv v fns q h hr hf;rw[Cp.zhC hk];rcases hr with ⟨fy,rfl⟩|⟨fy,rfl⟩|⟨fy,rfl⟩|⟨fy,bf,bv,b,k1,rfl,k3,k4⟩|⟨fy,u1,u2,d1,d2,k1,rfl,k3,k4⟩|⟨fy,u1,u2,d1,d2,k1,rfl,k3,k4⟩|⟨fy,bf,bv,b,parts,pvs,k1,rfl,k3,k4,k5,k6,k7⟩|⟨fy,cv,bf,b,ag,nvs,bvs,k1,rfl,k3,k4,k5,k6,k7,k8,k9⟩
  ·omega
  ·omega
  ·omega
  ·omega
  ·omega
  ·omega
  ·obtain ⟨pp,pn,pc,rfl⟩:=zae k5;obtain ⟨bt,bx,rfl⟩:=zah k7;refine zq0 (below:=0) (fun W fW=>?_);by_cases h8:e.kind=8
   ·rw[show (e.kind == 8)=true by simp[h8]];exact zvP hW hn (h.fr0 fW) h8 k1 k3 k4 (Row.frc k5 fW (by simp)) (fun i bv p hi hp=>(k6 i bv p hi hp).fr0 fW) (k7.fr0 fW) hf
   ·rw[show (e.kind == 8)=false by simp[h8]];exact zrB hW hn (h.fr0 fW) (by omega) k1 k3 k4 (Row.frc k5 fW (by simp)) (fun i bv p hi hp=>(k6 i bv p hi hp).fr0 fW) (k7.fr0 fW) hf
  ·omega
 by_cases kf:below=0
 ·subst kf;exact hz h hr hf
 ·have hw:=hf.wt;have hm:=hf.mm;have aN:=hf.cl;have aK:=hf.sl;have cV:=hf.bl;have bZ:=hf.fl;have aL:=hf.len;have hp:=hf.dp.pos;have hM:M+8<=(M+8)*Cp.wt N e:=zzU _ hp;have hle:=zyR (Cp.zbg q.zac (Cp.free N e)) (Cp.zaZ N e);have Fi:=zex fns q (Cp.zai q.zac (Cp.free N e));have he:Cp.work (Cp.free N) fns (n+1) e below q=Cp.Bs.ends ⟨(Cp.work (Cp.free N) fns (n+1) e 0 ⟨q.blocks,(Cp.zai q.zac (Cp.free N e)).reverse,[]⟩).blocks++[((Cp.zai q.zac (Cp.free N e)).reverse.length,(Cp.work (Cp.free N) fns (n+1) e 0 ⟨q.blocks,(Cp.zai q.zac (Cp.free N e)).reverse,[]⟩).code)],(q.zak fns (Cp.zai q.zac (Cp.free N e))).zac,(q.zak fns (Cp.zai q.zac (Cp.free N e))).code⟩ (below+(Cp.zai q.zac (Cp.free N e)).length) (.jump (Cp.work (Cp.free N) fns (n+1) e 0 ⟨q.blocks,(Cp.zai q.zac (Cp.free N e)).reverse,[]⟩).blocks.length):=by
   rw[Cp.zhC hk];rw[Cp.work,if_neg (by omega),if_neg (by omega),if_neg (by omega),if_pos hk,if_neg kf];simp only[Cp.Bs.zhD];rw[Fi]
  rw[he];have hc:=(Cp.zaK M N fns (n+1) e 0 ⟨q.blocks,(Cp.zai q.zac (Cp.free N e)).reverse,[]⟩ hf.dp hf.wt).2.2;simp only at hc;have fQ:=hr;rcases hr with ⟨fy,rfl⟩|⟨fy,rfl⟩|⟨fy,rfl⟩|⟨fy,bf,bv,b,k1,rfl,k3,k4⟩|⟨fy,u1,u2,d1,d2,k1,rfl,k3,k4⟩|⟨fy,u1,u2,d1,d2,k1,rfl,k3,k4⟩|⟨fy,bf,bv,b,parts,pvs,k1,rfl,k3,k4,k5,k6,k7⟩|⟨fy,cv,bf,b,ag,nvs,bvs,k1,rfl,k3,k4,k5,k6,k7,k8,k9⟩
  ·omega
  ·omega
  ·omega
  ·omega
  ·omega
  ·omega
  ·obtain ⟨pp,pn,pc,rfl⟩:=zae k5;obtain ⟨bt,bx,rfl⟩:=zah k7;refine zq0 (fun W fW=>?_);refine zvO (h.fr0 fW) (fQ.fr0 fW) (fun W2 wH=>zgU N (((fQ.fr0 fW).fr0 wH).le hn) (by omega)) rfl (by omega) (by omega) (by omega) (by omega) (hf.hin q.zac) (by omega) (by omega) (fun Z1 W1 bh nv aE dd af=>?_);exact ze3 hz aE dd af hf.susp (by omega) (by omega)
  ·omega
theorem zo0(M:Nat){N:Nat}(hN:N<=100000):∀ n,n<=N->zbi M N n
 |0,_=>fun _ _ _ _ _ _ _ _ _ _ _ _ _ hr _ _=>hr.elim
 |n+1,hn=>by
  have hW:=zo0 M hN n (by omega);intro Z w cb bb rv sv kv v fns q e below h hr hf hb;have fQ:=hr;rcases hr with ⟨hk,_⟩|⟨hk,_⟩|⟨hk,_⟩|⟨hk,_⟩|⟨hk,u1,u2,d1,d2,k1,rfl,k3,k4⟩|⟨hk,u1,u2,d1,d2,k1,rfl,k3,k4⟩|⟨hk,_⟩|⟨hk,cv,bf,b,ag,nvs,bvs,k1,rfl,k3,k4,k5,k6,k7,k8,k9⟩
  ·exact zd8 hW hn h fQ hf hb (by omega)
  ·exact zd8 hW hn h fQ hf hb (by omega)
  ·exact zd8 hW hn h fQ hf hb (by omega)
  ·exact zd8 hW hn h fQ hf hb (by omega)
  ·exact zkp hN hW hn h hk k1 k3 k4 hf hb
  ·exact zp8 hW hn h hk k1 k3 k4 hf hb
  ·exact znf hW hn h hk fQ hf hb
  ·exact zkq hW hn h hk k1 k3 k4 k5 k6 k7 k8 k9 hf hb
end Go.Proofs.YtgahgkddaljmkaaGreatDoor
