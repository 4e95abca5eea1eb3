/- Cmp44 .. Cmp45 -/
import Derived.Test.YtgahgkddaljmkaaGreatDoorV27
import Derived.Test.YtgahgkddaljmkaaGreatDoorV1
set_option maxRecDepth 100000
set_option maxHeartbeats 4000000
namespace Go.Proofs.YtgahgkddaljmkaaGreatDoor
open Go.RowKit Go.Shelf
theorem sum8(N:Nat)(l:List Th.Ex):(l.map fun d=>8*Cp.wt N d+1).sum=8*(l.map (Cp.wt N)).sum+l.length:=by
 induction l with
 |nil=>rfl
 |cons d l ih=>simp only[zx6,zx9,zx3,ih];omega
variable {M N n:Nat}
variable {Z:Nat->Prop}
variable {w:World}
variable {cb bb below:Nat}
variable {rv sv kv:Value}
variable {fns:List Cp.Nm}
variable {q:Cp.Bs}
variable {e:Th.Ex}
theorem zpi(hW:zbg M N n)(hn:n+1<=N){u1 u2:Value}{d1 d2:Th.Ex}(h:BS Z w cb bb rv sv kv fns q)(hk:e.kind=6)(k1:e.kids=[d1,d2])(k3:Rep Z w n u1 d1)(k4:Rep Z w n u2 d2)(hf:Fit M N fns q e)(hb:below+(M+8)*Cp.wt N e<=1000000000):
  Calls Tryz.prog 54 #[.pointer (some ⟨bb,0,none⟩),.iface 166 (.agg #[.string ⟨e.tok.s.toArray⟩,u1,u2]),.int .i64 below] w fun r w'=>r=.returned (.tuple #[])/\Did Z w cb bb rv sv kv fns (Cp.work (Cp.free N) fns (n+1) e below q) w':=by
 obtain ⟨t1,x1,rfl⟩:=zah k3;obtain ⟨t2,x2,rfl⟩:=zah k4;have hw:=hf.wt;have hm:=hf.mm;have hcl:=hf.cl;have hsl:=hf.sl;have hbl:=hf.bl;have hfl:=hf.fl;have hpr:=hf.prod;have hwt:=hf.dp.wt;rw[k1]at hwt;simp at hwt;have dp1:=hf.dp.kid (k:=d1) (by simp[k1]);have dp2:=hf.dp.kid (k:=d2) (by simp[k1]);have hfr:=hf.dp.free;rw[k1]at hfr;simp[hk]at hfr;have hm1:(M+8)*(Cp.wt N d1+Cp.wt N d2+1)<=(M+8)*Cp.wt N e:=zyl _ (by omega);rw[zyE,zyE]at hm1;have hl2:=Cp.zaZ N d2;obtain ⟨names,hnm⟩:∃ names,names=Cp.zai q.zac (Cp.free N d2):=⟨_,rfl⟩;have hnl:=Cp.zbd q.zac (Cp.free N d2);rw[<-hnm]at hnl;obtain ⟨sl,hsl0⟩:∃ sl:List Cp.Nm,sl=([]::names).reverse:=⟨_,rfl⟩;have hsll:sl.length=names.length+1:=by rw[hsl0];simp
 obtain ⟨R,hR⟩:∃ R,R=Cp.zi7 (Cp.work (Cp.free N) fns n d2 2) ⟨e.tok.s.toArray⟩ ⟨q.blocks,sl,[]⟩:=⟨_,rfl⟩;have hRb:R.blocks.length<=q.blocks.length+8*Cp.wt N d2:=by
  have:=(Cp.zaH M N fns n d2 2 (Cp.Bs.push ⟨q.blocks++[(2,[.comp ⟨e.tok.s.toArray⟩,.enter])],sl++[[]],[.zbV,.push (sl.length-1)]⟩ (.wait q.blocks.length)) dp2 (by omega)).2.2;rw[hR];unfold Cp.zi7;simp only[Cp.Bs.push,Cp.Bs.write,zxP,zxW,zx7,zx5]at this ⊢;omega
 have he:Cp.work (Cp.free N) fns (n+1) e below q=Cp.work (Cp.free N) fns n d1 (below+names.length+1) ((Cp.Bs.zak fns ⟨R.blocks++[(sl.length,R.code)],q.zac,q.code⟩ names).push (.wait R.blocks.length)):=by
  rw[Cp.work,if_neg (by omega),if_pos hk,k1];simp only;rw[<-hnm,<-hsl0,hR];rfl
 rw[he];have hnmem:∀ x∈Cp.free N d2,x≠[]/\(x∈names\/x∈fns):=fun x hx=>by
  obtain ⟨c1,c2⟩:=hf.nm x (by rw[hfr];exact Cp.zav.2 (.inr hx));refine ⟨c1,?_⟩;rcases c2 with c2|c2
  ·exact .inl (by rw[hnm];exact Cp.zbG.2 ⟨hx,c2⟩)
  ·exact .inr c2
 refine zkA (blk:=R.blocks.length) (bl:=R.blocks++[(sl.length,R.code)]) (names:=names) h k3 (fun W fW=>zhe N ((k4.fr0 fW).le (by omega)) (by omega)) hnm (by omega) (by omega) ?_ ?_
 ·intro Z1 W nv hZ fW hcs hrow;refine zt2 hW hsl0 hR hcs (k4.frz fW (by simp) (fun k _ x=>hZ k x)) hrow (fun b2 cd hb2 hcd=>?_) (by omega) (by omega) (by omega) (by omega);refine ⟨dp2,by omega,hm,hfl,fun x hx=>?_,by simp only;omega,by simp only[zxP,zxW];omega,by simp only;omega⟩;obtain ⟨c1,c2⟩:=hnmem x hx;refine ⟨c1,?_⟩;rcases c2 with c2|c2
  ·exact .inl (by simp[hsl0,c2])
  ·exact .inr c2
 ·intro Z1 W rv1 sv1 kv1 nv hb1 hr1 hrow;obtain ⟨c,u1,u2⟩:=Cp.zdZ fns ⟨R.blocks++[(sl.length,R.code)],q.zac,q.code⟩ names;refine zp8 hW hb1 hr1 hrow ?_ (by simp only;omega) (by simp only;omega) (by omega) ?_ (by omega)
  ·intro x hx;rw[hnm]at hx;obtain ⟨g1,g2⟩:=Cp.zbG.1 hx;exact ⟨(hnmem x g1).1,fun hs=>absurd g2 (Cp.zb6.1 hs)⟩
  ·rw[u1];refine hf.part dp1 (by omega) (fun x hx=>?_) (by simp only[Cp.Bs.push,zxP,zxW];omega) (by simp only[Cp.Bs.push,zxP,zxW,zyt];omega) (by simp only[Cp.Bs.push,zxP,zxW];omega);obtain ⟨c1,c2⟩:=hf.nm x (by rw[hfr];exact Cp.zav.2 (.inl hx));refine ⟨c1,?_⟩;simp only[Cp.Bs.push];rcases c2 with c2|c2
   ·exact .inl (by simp[c2])
   ·exact .inr c2
theorem zjc(hW:zbg M N n)(hn:n+1<=N){cv av:Value}{s:Th.Ex}{bodies:List Th.Ex}{nvs bvs:List Value}(h:BS Z w cb bb rv sv kv fns q)(hk:e.kind=9)(k1:e.kids=s::bodies)(k3:bodies.length=e.zao.length)(k4:nvs.length=e.zao.length)(k5:bvs.length=e.zao.length)(k6:Row Z w 240 3 av e.zao.length (za7 e.zao nvs bvs))(k7:∀ (i:Nat) (a:Nat × List Th.Tok) (nv:Value),e.zao[i]?=some a->nvs[i]?=some nv->Row Z w 88 2 nv a.2.length (zaj a.2))(k8:∀ (i:Nat) (bv:Value) (p:Th.Ex),bvs[i]?=some bv->bodies[i]?=some p->Rep Z w n bv p)(k9:Rep Z w n cv s)(hf:Fit M N fns q e)(hb:below+(M+8)*Cp.wt N e<=1000000000):
  Calls Tryz.prog 54 #[.pointer (some ⟨bb,0,none⟩),.iface 173 (.agg #[cv,av]),.int .i64 below] w fun r w'=>r=.returned (.tuple #[])/\Did Z w cb bb rv sv kv fns (Cp.work (Cp.free N) fns (n+1) e below q) w':=by
 obtain ⟨t1,x1,rfl⟩:=zah k9;obtain ⟨pp,pn,pc,rfl⟩:=zae k6;have hw:=hf.wt;have hm:=hf.mm;have hcl:=hf.cl;have hsl:=hf.sl;have hbl:=hf.bl;have hfl:=hf.fl;have hpr:=hf.prod;have hwt:=hf.dp.wt;rw[k1]at hwt;simp only[zx6,zx9]at hwt;have dp1:=hf.dp.kid (k:=s) (by simp[k1]);have dp2:∀ d∈bodies,Cp.Dp N d:=fun d hd=>hf.dp.kid (by simp[k1,hd])
 have hfr:=hf.dp.free;rw[k1]at hfr;simp[hk]at hfr;have hm1:(M+8)*(Cp.wt N s+1+(bodies.map (Cp.wt N)).sum)<=(M+8)*Cp.wt N e:=zyl _ (by omega);rw[zyE,zyE]at hm1;have hal:=Cp.zbP (Cp.free N) (Cp.wt N) (Cp.zaZ N) e.zao bodies [];simp only[zyi,zyC]at hal;have harl:=zmq e.zao;obtain ⟨names,hnm⟩:∃ names,names=Cp.zai q.zac (Cp.zas (Cp.free N) e.zao bodies []):=⟨_,rfl⟩;have hnl:=Cp.zbd q.zac (Cp.zas (Cp.free N) e.zao bodies []);rw[<-hnm]at hnl;obtain ⟨sl,hsl0⟩:∃ sl:List Cp.Nm,sl=([]::names).reverse:=⟨_,rfl⟩;obtain ⟨R,hR⟩:∃ R,R=(Cp.armsOf (Cp.work (Cp.free N) fns n) names e.zao bodies ⟨q.blocks,sl,[]⟩ []).1.write (.choose (Cp.armsOf (Cp.work (Cp.free N) fns n) names e.zao bodies ⟨q.blocks,sl,[]⟩ []).2):=⟨_,rfl⟩;have hRb:R.blocks.length<=q.blocks.length+8*(bodies.map (Cp.wt N)).sum:=by
  have:=(Cp.zeZ (Cp.zaH M N fns n) names e.zao bodies ⟨q.blocks,sl,[]⟩ [] (fun d hd=>⟨dp2 d hd,by have:=Cp.zbh (f:=Cp.wt N) hd;omega⟩)).1;rw[hR];exact this
 have he:Cp.work (Cp.free N) fns (n+1) e below q=Cp.work (Cp.free N) fns n s (below+names.length+1) ((Cp.Bs.zak fns ⟨R.blocks++[(sl.length,R.code)],q.zac,q.code⟩ names).push (.wait R.blocks.length)):=by
  rw[Cp.work,if_neg (by omega),if_neg (by omega),if_pos hk,k1];simp only;rw[<-hnm,<-hsl0,hR];rfl
 rw[he];have hsum2:=sum8 N bodies;have hnmem:∀ x∈Cp.zas (Cp.free N) e.zao bodies [],x≠[]/\(x∈names\/x∈fns):=fun x hx=>by
  obtain ⟨c1,c2⟩:=hf.nm x (by rw[hfr];exact Cp.zav.2 (.inr hx));refine ⟨c1,?_⟩;rcases c2 with c2|c2
  ·exact .inl (by rw[hnm];exact Cp.zbG.2 ⟨hx,c2⟩)
  ·exact .inr c2
 refine zsl (blk:=R.blocks.length) (bl:=R.blocks++[(sl.length,R.code)]) (names:=names) (l:=Cp.zas (Cp.free N) e.zao bodies []) h k9 (fun W fW=>?_) hnm (by omega) (by omega) ?_ ?_
 ·refine zf1 (g:=Cp.wt N) (Cp.zaZ N) k3 k4 k5 (Row.frc k6 fW (by simp)) (fun i a nv hi hv=>⟨Row.frc (k7 i a nv hi hv) fW (by simp),by have:=ziK hi;omega⟩) (fun i bv p hi hp=>⟨zah (k8 i bv p hi hp),fun W' hW'=>?_⟩) (by omega) (by omega);exact zhe N ((((k8 i bv p hi hp).fr0 fW).fr0 hW').le (by omega)) (by have:=Cp.zbh (f:=Cp.wt N) (zxX hp);omega)
 ·intro Z1 W nv hZ fW hcs hrow;refine zvs hW hsl0 hR hcs k3 k4 k5 (k6.frz fW (by simp) (fun k _ x=>hZ k x)) hrow (fun i a nv hi hv=>(k7 i a nv hi hv).frz fW (by simp) (fun k _ x=>hZ k x)) (fun i bv p hi hp=>(k8 i bv p hi hp).frz fW (by simp) (fun k _ x=>hZ k x)) (hf.dp.zd4.k9 hk).1 (fun d q' hd=>?_) (fun i a d b hi hd hbb=>?_) (by rw[hsum2];omega) (by omega) (by omega) (by omega)
  ·have:=(Cp.zaH M N fns n d 0 q' (dp2 d hd) (by have:=Cp.zbh (f:=Cp.wt N) hd;omega)).2.2;omega
  ·have hdm:=zxX hd;have hds:=Cp.zbh (f:=Cp.wt N) hdm;have hai:=ziK hi;have htl:=Cp.zci a.2;have hmd:(M+8)*Cp.wt N d<=(M+8)*(bodies.map (Cp.wt N)).sum:=zyl _ hds;refine ⟨⟨dp2 d hdm,by omega,hm,hfl,fun x hx=>?_,by simp only[zyi];omega,by simp only[zx0,zxP];omega,hbb⟩,by omega⟩;by_cases hxn:x∈Th.texts a.2
   ·have hne:x≠[]:=by
     obtain ⟨t,h1,h2⟩:=zyW.1 hxn;rw[<-h2];exact (hf.dp.zd4.am a (zxX hi)).2 t h1
    exact ⟨hne,.inl (by simp[hxn])⟩
   ·obtain ⟨c1,c2⟩:=hnmem x (Cp.zcM.2 (.inr ⟨i,a,d,hi,hd,hx,hxn⟩));refine ⟨c1,?_⟩;rcases c2 with c2|c2
    ·exact .inl (by simp[c2])
    ·exact .inr c2
 ·intro Z1 W rv1 sv1 kv1 nv hb1 hr1 hrow;obtain ⟨c,u1,u2⟩:=Cp.zdZ fns ⟨R.blocks++[(sl.length,R.code)],q.zac,q.code⟩ names;have hdp:=dp1.pos;refine zp8 hW hb1 hr1 hrow ?_ (by simp only;omega) (by simp only;omega) (by omega) ?_ (by omega)
  ·intro x hx;rw[hnm]at hx;obtain ⟨g1,g2⟩:=Cp.zbG.1 hx;exact ⟨(hnmem x g1).1,fun hs=>absurd g2 (Cp.zb6.1 hs)⟩
  ·rw[u1];refine hf.part dp1 (by omega) (fun x hx=>?_) (by simp only[Cp.Bs.push,zxP,zxW];omega) (by simp only[Cp.Bs.push,zxP,zxW,zyt];omega) (by simp only[Cp.Bs.push,zxP,zxW];omega);obtain ⟨c1,c2⟩:=hf.nm x (by rw[hfr];exact Cp.zav.2 (.inl hx));refine ⟨c1,?_⟩;simp only[Cp.Bs.push];rcases c2 with c2|c2
   ·exact .inl (by simp[c2])
   ·exact .inr c2
theorem Cp.zh5(wk:Th.Ex->Nat->Cp.Bs->Cp.Bs)(fr:Th.Ex->List Cp.Nm)(p:Th.Ex):∀ (l:List Th.Ex) (b:Cp.Bs) (a:List (List Cp.Nm)),Cp.makeAll wk fr (l++[p]) b a =
  ((Cp.zal wk fr (Cp.makeAll wk fr l b a).1 p).1.write (.hold (Cp.zal wk fr (Cp.makeAll wk fr l b a).1 p).2.1 (Cp.zal wk fr (Cp.makeAll wk fr l b a).1 p).2.2.length),(Cp.makeAll wk fr l b a).2++[(Cp.zal wk fr (Cp.makeAll wk fr l b a).1 p).2.2])
 |[],b,a=>rfl
 |x::l,b,a=>by
  rw[zx5,Cp.makeAll,Cp.makeAll];exact Cp.zh5 wk fr p l _ _
theorem Cp.zh9(fns:List Cp.Nm)(x:List Cp.Nm):∀ (l:List (List Cp.Nm)) (i:Nat) (b:Cp.Bs),Cp.zbe fns i (l++[x]) b=((((Cp.zbe fns i l b).zak fns x).drop x.length).write (.fill (i+l.length) x.length))
 |[],i,b=>rfl
 |y::l,i,b=>by
  rw[zx5,Cp.zbe,Cp.zbe,Cp.zh9 fns x l (i+1) _];rw[show i+1+l.length=i+(y::l).length by simp;omega]
theorem zjr{α:Type}{l:List α}{i:Nat}{p:α}(h:l[i]?=some p):l.take (i+1)=l.take i++[p]:=by
 rw[zzh,h];rfl
theorem Cp.zqb(f:Th.Ex->Nat){l:List Th.Ex}{i:Nat}{p:Th.Ex}(h:l[i]?=some p):((l.take i).map f).sum+f p<=(l.map f).sum:=by
 have h1:(l.map f).sum=((l.take (i+1)).map f).sum+((l.drop (i+1)).map f).sum:=by rw[<-zy0,<-zy1,zzf]
 rw[zjr h,zy1,zy0]at h1;simp only[zx6,List.map_nil,zx9,List.sum_nil]at h1;omega
theorem zfk{l:List Th.Tok}(h:∀ t∈l,t.s≠[]){x:Cp.Nm}(hx:x∈Th.texts l):x≠[]:=by
 obtain ⟨t,h1,h2⟩:=zyW.1 hx;rw[<-h2];exact h t h1
variable {d:Th.Ex}
variable {parts:List Th.Ex}
theorem ztD{wk:Th.Ex->Nat->Cp.Bs->Cp.Bs}(hw:Cp.zb7 M N wk)(hk:e.kind=7\/e.kind=8)(k1:e.kids=d::parts)(k3:parts.length=e.names.length)(hf:Fit M N fns q e):Fit M N fns (Cp.zdo wk (Cp.free N) fns e parts q) d:=by
 obtain ⟨a1,a2,a3⟩:=Cp.zdX hw fns k1 k3 q hf.dp hf.wt;have hwt:=hf.dp.wt;rw[k1]at hwt;simp only[zx6,zx9]at hwt;have hm1:(M+8)*(Cp.wt N d+e.names.length+1)<=(M+8)*Cp.wt N e:=zyl _ (by omega);rw[zyE,zyE]at hm1;have hnl:e.names.length<=(M+8)*e.names.length:=zyS _ (by omega);have htl:=Cp.zci e.names;refine hf.part (hf.dp.kid (by simp[k1])) (by omega) (fun x hx=>?_) (by omega) (by rw[a2,zxP];omega) (by omega);rw[a2];by_cases hxn:x∈Th.texts e.names
 ·exact ⟨zfk hf.dp.zd4.nm hxn,.inl (by simp[hxn])⟩
 ·have hfr:=hf.dp.free;rw[k1]at hfr;have hx2:x∈Cp.free N e:=by
   rw[hfr];rcases hk with hk|hk
   ·simp only[hk];simp[Cp.zav,Cp.zaL,hx,hxn]
   ·simp only[hk];simp[Cp.zav,Cp.zaL,hx,hxn]
  obtain ⟨c1,c2⟩:=hf.nm x hx2;refine ⟨c1,?_⟩;rcases c2 with c2|c2
  ·exact .inl (by simp[c2])
  ·exact .inr c2
theorem zu1(hW:zbg M N n)(hn:n+1<=N){pv bv:Value}{pvs:List Value}(h:BS Z w cb bb rv sv kv fns q)(hk:e.kind=8)(k1:e.kids=d::parts)(k3:parts.length=e.names.length)(k4:pvs.length=e.names.length)(k5:Row Z w 312 3 pv e.names.length (zaM e.names pvs))(k6:∀ (i:Nat) (bv:Value) (p:Th.Ex),pvs[i]?=some bv->parts[i]?=some p->Rep Z w n bv p)(k7:Rep Z w n bv d)(hf:Fit M N fns q e):
  Calls Tryz.prog 94 #[.pointer (some ⟨bb,0,none⟩),.agg #[.bool true,pv,bv],.int .i64 0] w fun r w'=>r=.returned (.tuple #[])/\Did Z w cb bb rv sv kv fns (Cp.zkm (Cp.work (Cp.free N) fns n) (Cp.free N) fns e q) w':=by
 obtain ⟨pp,pn,pc,rfl⟩:=zae k5;obtain ⟨bt,bx,rfl⟩:=zah k7;have hcost:=Cp.zaH M N fns n;have hfd:=ztD hcost (.inr hk) k1 k3 hf;have hfp:=hfd.prod;have hw:=hf.wt;have hm:=hf.mm;have hcl:=hf.cl;have hsl:=hf.sl;have hfl:=hf.fl;have hwt:=hf.dp.wt;rw[k1]at hwt;simp only[zx6,zx9]at hwt;have htl:=Cp.zci e.names;have hm1:(M+8)*(Cp.wt N d+(parts.map (Cp.wt N)).sum+e.names.length+1)<=(M+8)*Cp.wt N e:=zyl _ (by omega);rw[zyE,zyE,zyE]at hm1;have hnl:e.names.length<=(M+8)*e.names.length:=zyS _ (by omega);have hmem:∀ x∈parts,Cp.Dp N x/\Cp.wt N x<=M:=fun x hx=>⟨hf.dp.kid (by simp[k1,hx]),by have:=Cp.zbh (f:=Cp.wt N) hx;omega⟩
 have hpos:0<e.names.length:=zyz.2 (hf.dp.zd4.k7 (.inr hk)).1;obtain ⟨b,hbd⟩:∃ b:Cp.Bs,b=⟨q.blocks,q.zac++Th.texts e.names,q.code⟩:=⟨_,rfl⟩;have hbs:b.zac=q.zac++Th.texts e.names:=by rw[hbd]
 have hbc:b.code=q.code:=by rw[hbd]
 have hbb:b.blocks=q.blocks:=by rw[hbd]
 have hbcl:b.code.length=q.code.length:=by rw[hbc]
 have hbsl:b.zac.length=q.zac.length+e.names.length:=by rw[hbs,zxP,htl]
 rw[Cp.zes k1];have hin:Cp.zdo (Cp.work (Cp.free N) fns n) (Cp.free N) fns e parts q=Cp.zbe fns q.zac.length (Cp.makeAll (Cp.work (Cp.free N) fns n) (Cp.free N) parts b []).2 (Cp.makeAll (Cp.work (Cp.free N) fns n) (Cp.free N) parts b []).1:=by
  unfold Cp.zdo;rw[if_pos hk,hbd]
 obtain ⟨m1,m2,m3,m4,m5⟩:=Cp.zgP hcost parts b [] hmem (by simp);have hmt:∀ i,(Cp.makeAll (Cp.work (Cp.free N) fns n) (Cp.free N) (parts.take i) b []).1.blocks.length<=b.blocks.length+8*((parts.take i).map (Cp.wt N)).sum/\(Cp.makeAll (Cp.work (Cp.free N) fns n) (Cp.free N) (parts.take i) b []).1.zac=b.zac/\(Cp.makeAll (Cp.work (Cp.free N) fns n) (Cp.free N) (parts.take i) b []).1.code.length=b.code.length+(parts.take i).length:=fun i=>by
  obtain ⟨c1,c2,c3,_,_⟩:=Cp.zgP hcost (parts.take i) b [] (fun x hx=>hmem x (zzj hx)) (by simp);exact ⟨c1,c2,c3⟩
 have hget:∀ i,i<e.names.length->∃ p,parts[i]?=some p/\p∈parts:=fun i hi=>⟨parts[i]'(by omega),zxI (by omega),List.getElem_mem _⟩
 rw[zx7]at m4;have hmul:∀ i,i<=e.names.length->(M+1)*i+e.names.length<=(M+8)*e.names.length:=fun i hi=>by
  have h1:(M+1)*i<=(M+1)*e.names.length:=zyl _ hi;have h2:(M+8)*e.names.length=(M+1)*e.names.length+7*e.names.length:=by rw[<-Nat.add_mul]
  omega
 have hft:∀ i,i<=e.names.length->(Cp.zbe fns q.zac.length ((Cp.makeAll (Cp.work (Cp.free N) fns n) (Cp.free N) parts b []).2.take i) (Cp.makeAll (Cp.work (Cp.free N) fns n) (Cp.free N) parts b []).1).zac=b.zac/\(Cp.zbe fns q.zac.length ((Cp.makeAll (Cp.work (Cp.free N) fns n) (Cp.free N) parts b []).2.take i) (Cp.makeAll (Cp.work (Cp.free N) fns n) (Cp.free N) parts b []).1).code.length<=b.code.length+(M+8)*e.names.length:=fun i hi=>by
  obtain ⟨c1,c2,c3⟩:=Cp.zka (M:=M) fns ((Cp.makeAll (Cp.work (Cp.free N) fns n) (Cp.free N) parts b []).2.take i) q.zac.length (Cp.makeAll (Cp.work (Cp.free N) fns n) (Cp.free N) parts b []).1 (fun x hx=>m5 x (zzj hx));have hl:((Cp.makeAll (Cp.work (Cp.free N) fns n) (Cp.free N) parts b []).2.take i).length=i:=by rw[m4];simp;omega
  rw[hl]at c3;have:=hmul i hi;exact ⟨c2.trans m2,by omega⟩
 refine zuT hW h k7 (fun Z1 W hZ fW hb1=>?_) hfd (by omega);rw[hin];have hlast:Cp.zbe fns q.zac.length (Cp.makeAll (Cp.work (Cp.free N) fns n) (Cp.free N) parts b []).2 (Cp.makeAll (Cp.work (Cp.free N) fns n) (Cp.free N) parts b []).1=Cp.zbe fns q.zac.length ((Cp.makeAll (Cp.work (Cp.free N) fns n) (Cp.free N) parts b []).2.take e.names.length) (Cp.makeAll (Cp.work (Cp.free N) fns n) (Cp.free N) parts b []).1:=by
  rw[zx4 (by rw[m4];simp;omega)]
 rw[hlast];refine zim (n:=n) (parts:=parts) (pvs:=pvs) (l:=e.names) (st:=fun i=>(Cp.makeAll (Cp.work (Cp.free N) fns n) (Cp.free N) (parts.take i) b []).1)
  (qc:=fun i=>(Cp.zal (Cp.work (Cp.free N) fns n) (Cp.free N) (Cp.makeAll (Cp.work (Cp.free N) fns n) (Cp.free N) (parts.take i) b []).1 (parts.getD i Th.ex0)).1)
  (bk:=fun i=>(Cp.zal (Cp.work (Cp.free N) fns n) (Cp.free N) (Cp.makeAll (Cp.work (Cp.free N) fns n) (Cp.free N) (parts.take i) b []).1 (parts.getD i Th.ex0)).2.1)
  (nms:=fun i=>Cp.zai b.zac (Cp.free N (parts.getD i Th.ex0)))
  (ft:=fun i=>Cp.zbe fns q.zac.length ((Cp.makeAll (Cp.work (Cp.free N) fns n) (Cp.free N) parts b []).2.take i) (Cp.makeAll (Cp.work (Cp.free N) fns n) (Cp.free N) parts b []).1)
  hb1 k3 k4 (k5.frz fW (by simp) (fun k _ x=>hZ k x)) (fun i bv p hi hp=>(k6 i bv p hi hp).frz fW (by simp) (fun k _ x=>hZ k x)) ?_ ?_ ?_ ?_ ?_ ?_ ?_ (by omega) hpos (by omega) (by omega)
 ·simp only[zyN,Cp.makeAll];exact hbd
 ·intro i e' Z2 W2 rv1 sv1 kv1 v he' hb2 hr2;have hg:parts.getD i Th.ex0=e':=by rw[zyR,he'];rfl
  have hm':=zxX he';obtain ⟨c1,c2,c3⟩:=hmt i;have hst:=Cp.zqb (Cp.wt N) he';have htk:(parts.take i).length<=e.names.length:=by simp;omega
  have hm2:(M+8)*Cp.wt N e'<=(M+8)*(parts.map (Cp.wt N)).sum:=zyl _ (by omega);have hC:=zeO hW hn hb2 hr2 (hf.part (hmem e' hm').1 (by omega) (fun x hx=>?_) (by omega) (by rw[c2,hbs,zxP];omega) (by rw[hbb]at c1;omega))
  ·unfold znq at hC;simp only[hg];rw[c2]at hC;exact hC
  ·rw[c2,hbs];by_cases hxn:x∈Th.texts e.names
   ·exact ⟨zfk hf.dp.zd4.nm hxn,.inl (by simp[hxn])⟩
   ·have hfr:=hf.dp.free;rw[k1]at hfr;simp only[hk]at hfr;simp at hfr;obtain ⟨g1,g2⟩:=hf.nm x (by
     rw[hfr];exact Cp.zav.2 (.inl (Cp.zaL.2 ⟨Cp.zbf.2 (.inr ⟨e',hm',hx⟩),hxn⟩)))
    refine ⟨g1,?_⟩;rcases g2 with g2|g2
    ·exact .inl (by simp[g2])
    ·exact .inr g2
 ·intro i hi;obtain ⟨p,hp,hpm⟩:=hget i hi;have hg:parts.getD i Th.ex0=p:=by rw[zyR,hp];rfl
  obtain ⟨c1,c2,c3⟩:=hmt i;obtain ⟨bl,hce⟩:=Cp.zfr (Cp.work (Cp.free N) fns n) (Cp.free N) (Cp.makeAll (Cp.work (Cp.free N) fns n) (Cp.free N) (parts.take i) b []).1 p;have hce2:(Cp.zal (Cp.work (Cp.free N) fns n) (Cp.free N) (Cp.makeAll (Cp.work (Cp.free N) fns n) (Cp.free N) (parts.take i) b []).1 p).2.2=Cp.zai b.zac (Cp.free N p):=by rw[hce,c2]
  simp only[hg];rw[zjr hp,Cp.zh5];simp only;rw[hce2]
 ·intro i hi;obtain ⟨p,hp,hpm⟩:=hget i hi;have hg:parts.getD i Th.ex0=p:=by rw[zyR,hp];rfl
  obtain ⟨c1,c2,c3⟩:=hmt i;have htk:(parts.take i).length<=e.names.length:=by simp;omega
  simp only[hg];rw[(Cp.zcj _ _ _ _).2];omega
 ·simp only[zyN,Cp.zbe];rw[zx4 (by omega)]
 ·intro i hi;obtain ⟨p,hp,hpm⟩:=hget i hi;have hg:parts.getD i Th.ex0=p:=by rw[zyR,hp];rfl
  have hp2:(Cp.makeAll (Cp.work (Cp.free N) fns n) (Cp.free N) parts b []).2[i]?=some (Cp.zai b.zac (Cp.free N p)):=by rw[m4];simp[hp]
  have hl:((Cp.makeAll (Cp.work (Cp.free N) fns n) (Cp.free N) parts b []).2.take i).length=i:=by rw[m4];simp;omega
  simp only[hg];rw[zjr hp2,Cp.zh9,hl]
 ·intro i hi;obtain ⟨p,hp,hpm⟩:=hget i hi;have hg:parts.getD i Th.ex0=p:=by rw[zyR,hp];rfl
  obtain ⟨c2,c3⟩:=hft i (by omega);have hpl:=(hmem p hpm).2;have hhl:=zxN (Cp.zbd b.zac (Cp.free N p)) (Cp.zaZ N p);simp only[hg];refine ⟨fun x hx=>?_,by omega,?_⟩
  ·rw[c2];obtain ⟨g1,g2⟩:=Cp.zbG.1 hx;refine ⟨?_,fun hs=>absurd g2 (Cp.zb6.1 hs)⟩;by_cases hxn:x∈Th.texts e.names
   ·exact zfk hf.dp.zd4.nm hxn
   ·have hfr:=hf.dp.free;rw[k1]at hfr;simp only[hk]at hfr;simp at hfr;exact (hf.nm x (by
     rw[hfr];exact Cp.zav.2 (.inl (Cp.zaL.2 ⟨Cp.zbf.2 (.inr ⟨p,hpm,g1⟩),hxn⟩)))).1
  ·rw[c2];omega
theorem zqK(hW:zbg M N n)(hn:n+1<=N){pv bv:Value}{pvs:List Value}(h:BS Z w cb bb rv sv kv fns q)(hk:e.kind=7)(k1:e.kids=d::parts)(k3:parts.length=e.names.length)(k4:pvs.length=e.names.length)(k5:Row Z w 312 3 pv e.names.length (zaM e.names pvs))(k6:∀ (i:Nat) (bv:Value) (p:Th.Ex),pvs[i]?=some bv->parts[i]?=some p->Rep Z w n bv p)(k7:Rep Z w n bv d)(hf:Fit M N fns q e):
  Calls Tryz.prog 94 #[.pointer (some ⟨bb,0,none⟩),.agg #[.bool false,pv,bv],.int .i64 0] w fun r w'=>r=.returned (.tuple #[])/\Did Z w cb bb rv sv kv fns (Cp.zkm (Cp.work (Cp.free N) fns n) (Cp.free N) fns e q) w':=by
 obtain ⟨pp,pn,pc,rfl⟩:=zae k5;obtain ⟨bt,bx,rfl⟩:=zah k7;have hcost:=Cp.zaH M N fns n;have hfd:=ztD hcost (.inl hk) k1 k3 hf;have hfp:=hfd.prod;have hw:=hf.wt;have hm:=hf.mm;have hcl:=hf.cl;have hsl:=hf.sl;have hfl:=hf.fl;have hwt:=hf.dp.wt;rw[k1]at hwt;simp only[zx6,zx9]at hwt;have hm1:(M+8)*(Cp.wt N d+(parts.map (Cp.wt N)).sum+e.names.length+1)<=(M+8)*Cp.wt N e:=zyl _ (by omega);rw[zyE,zyE,zyE]at hm1;have hnl:e.names.length<=(M+8)*e.names.length:=zyS _ (by omega);have hmem:∀ x∈parts,Cp.Dp N x/\Cp.wt N x<=M:=fun x hx=>⟨hf.dp.kid (by simp[k1,hx]),by have:=Cp.zbh (f:=Cp.wt N) hx;omega⟩
 have hpos:0<e.names.length:=zyz.2 (hf.dp.zd4.k7 (.inl hk)).1;rw[Cp.zes k1];have hin:Cp.zdo (Cp.work (Cp.free N) fns n) (Cp.free N) fns e parts q=⟨(parts.foldl (Cp.zaI (Cp.work (Cp.free N) fns n) (Cp.free N) fns) q).blocks,Go.splice (parts.foldl (Cp.zaI (Cp.work (Cp.free N) fns n) (Cp.free N) fns) q).zac q.zac.length (Th.texts e.names),(parts.foldl (Cp.zaI (Cp.work (Cp.free N) fns n) (Cp.free N) fns) q).code⟩:=by
  unfold Cp.zdo;rw[if_neg (by omega)]
 refine zro hW h k7 (fun Z1 W hZ fW hb1=>?_) hfd (by omega);rw[hin];have hsl2:(parts.foldl (Cp.zaI (Cp.work (Cp.free N) fns n) (Cp.free N) fns) q).zac.length=q.zac.length+e.names.length:=by
  rw[(Cp.zcb hcost fns parts q hmem).2.1];simp[k3]
 refine zuy (n:=n) (parts:=parts) (pvs:=pvs) (l:=e.names) rfl hb1 k3 k4 (k5.frz fW (by simp) (fun k _ x=>hZ k x)) (fun i bv p hi hp=>(k6 i bv p hi hp).frz fW (by simp) (fun k _ x=>hZ k x)) ?_ hpos (by omega) hsl2 (by omega);intro i e' Z2 W2 rv1 sv1 kv1 v he' hb2 hr2;have hm':=zxX he';have hst:=Cp.zqb (Cp.wt N) he';have hile:(parts.take i).length<=e.names.length:=by simp;omega
 have hm2:(M+8)*Cp.wt N e'<=(M+8)*(parts.map (Cp.wt N)).sum:=zyl _ (by omega);have hm3:(M+1)*(parts.take i).length<=(M+8)*e.names.length:=Nat.mul_le_mul (by omega) hile;obtain ⟨c1,c2,c3⟩:=Cp.zcb hcost fns (parts.take i) q (fun x hx=>hmem x (zzj hx));refine zvV hW hn hb2 hr2 (hf.part (hmem e' hm').1 (by omega) (fun x hx=>?_) (by omega) (by rw[c2,zxP,zyt];omega) (by omega));have hfr:=hf.dp.free;rw[k1]at hfr;simp only[hk]at hfr;simp at hfr;obtain ⟨g1,g2⟩:=hf.nm x (by
  rw[hfr];exact Cp.zav.2 (.inl (Cp.zbf.2 (.inr ⟨e',hm',hx⟩))))
 refine ⟨g1,?_⟩;rw[c2];rcases g2 with g2|g2
 ·exact .inl (by simp[g2])
 ·exact .inr g2
theorem Cp.zgS(hk:e.kind=7\/e.kind=8)(q:Cp.Bs):Cp.work (Cp.free N) fns (n+1) e 0 q=Cp.zkm (Cp.work (Cp.free N) fns n) (Cp.free N) fns e q:=by
 rw[Cp.work,if_neg (by omega),if_neg (by omega),if_neg (by omega),if_pos hk,if_pos rfl]
theorem zmj(hW:zbg M N n)(hn:n+1<=N){v:Value}(h:BS Z w cb bb rv sv kv fns q)(hk:e.kind=7\/e.kind=8)(hr:Rep Z w (n+1) v e)(hf:Fit M N fns q e)(hb:below+(M+8)*Cp.wt N e<=1000000000):
  Calls Tryz.prog 54 #[.pointer (some ⟨bb,0,none⟩),v,.int .i64 below] w fun r w'=>r=.returned (.tuple #[])/\Did Z w cb bb rv sv kv fns (Cp.work (Cp.free N) fns (n+1) e below q) w':=by
 have hz:zuG M N (n+1) e:=by
  intro Z w cb bb rv sv kv v fns q h hr hf;rw[Cp.zgS hk];rcases hr with ⟨hk',rfl⟩|⟨hk',rfl⟩|⟨hk',rfl⟩|⟨hk',sv1,bv,b,k1,rfl,k3,k4⟩|⟨hk',u1,u2,d1,d2,k1,rfl,k3,k4⟩|⟨hk',u1,u2,d1,d2,k1,rfl,k3,k4⟩|⟨hk',sv1,bv,b,parts,pvs,k1,rfl,k3,k4,k5,k6,k7⟩|⟨hk',cv,sv1,b,bodies,nvs,bvs,k1,rfl,k3,k4,k5,k6,k7,k8,k9⟩
  ·omega
  ·omega
  ·omega
  ·omega
  ·omega
  ·omega
  ·obtain ⟨pp,pn,pc,rfl⟩:=zae k5;obtain ⟨bt,bx,rfl⟩:=zah k7;refine zqA (below:=0) (fun W fW=>?_);by_cases h8:e.kind=8
   ·rw[show (e.kind == 8)=true by simp[h8]];exact zu1 hW hn (h.fr0 fW) h8 k1 k3 k4 (Row.frc k5 fW (by simp)) (fun i bv p hi hp=>(k6 i bv p hi hp).fr0 fW) (k7.fr0 fW) hf
   ·rw[show (e.kind == 8)=false by simp[h8]];exact zqK hW hn (h.fr0 fW) (by omega) k1 k3 k4 (Row.frc k5 fW (by simp)) (fun i bv p hi hp=>(k6 i bv p hi hp).fr0 fW) (k7.fr0 fW) hf
  ·omega
 by_cases hb0:below=0
 ·subst hb0;exact hz h hr hf
 ·have hw:=hf.wt;have hm:=hf.mm;have hcl:=hf.cl;have hsl:=hf.sl;have hbl:=hf.bl;have hfl:=hf.fl;have hl1:=hf.len;have hp:=hf.dp.pos;have hM:M+8<=(M+8)*Cp.wt N e:=zyQ _ hp;have hle:=zxN (Cp.zbd q.zac (Cp.free N e)) (Cp.zaZ N e);have hub:=zep fns q (Cp.zai q.zac (Cp.free N e));have he:Cp.work (Cp.free N) fns (n+1) e below q=Cp.Bs.ends ⟨(Cp.work (Cp.free N) fns (n+1) e 0 ⟨q.blocks,(Cp.zai q.zac (Cp.free N e)).reverse,[]⟩).blocks++[((Cp.zai q.zac (Cp.free N e)).reverse.length,(Cp.work (Cp.free N) fns (n+1) e 0 ⟨q.blocks,(Cp.zai q.zac (Cp.free N e)).reverse,[]⟩).code)],(q.zak fns (Cp.zai q.zac (Cp.free N e))).zac,(q.zak fns (Cp.zai q.zac (Cp.free N e))).code⟩ (below+(Cp.zai q.zac (Cp.free N e)).length) (.jump (Cp.work (Cp.free N) fns (n+1) e 0 ⟨q.blocks,(Cp.zai q.zac (Cp.free N e)).reverse,[]⟩).blocks.length):=by
   rw[Cp.zgS hk];rw[Cp.work,if_neg (by omega),if_neg (by omega),if_neg (by omega),if_pos hk,if_neg hb0];simp only[Cp.Bs.zhw];rw[hub]
  rw[he];have hc:=(Cp.zaH M N fns (n+1) e 0 ⟨q.blocks,(Cp.zai q.zac (Cp.free N e)).reverse,[]⟩ hf.dp hf.wt).2.2;simp only at hc;have hr0:=hr;rcases hr with ⟨hk',rfl⟩|⟨hk',rfl⟩|⟨hk',rfl⟩|⟨hk',sv1,bv,b,k1,rfl,k3,k4⟩|⟨hk',u1,u2,d1,d2,k1,rfl,k3,k4⟩|⟨hk',u1,u2,d1,d2,k1,rfl,k3,k4⟩|⟨hk',sv1,bv,b,parts,pvs,k1,rfl,k3,k4,k5,k6,k7⟩|⟨hk',cv,sv1,b,bodies,nvs,bvs,k1,rfl,k3,k4,k5,k6,k7,k8,k9⟩
  ·omega
  ·omega
  ·omega
  ·omega
  ·omega
  ·omega
  ·obtain ⟨pp,pn,pc,rfl⟩:=zae k5;obtain ⟨bt,bx,rfl⟩:=zah k7;refine zqA (fun W fW=>?_);refine zuM (h.fr0 fW) (hr0.fr0 fW) (fun W2 fW2=>zhe N (((hr0.fr0 fW).fr0 fW2).le hn) (by omega)) rfl (by omega) (by omega) (by omega) (by omega) (hf.hin q.zac) (by omega) (by omega) (fun Z1 W1 rv1 nv hcs hr1 hrow=>?_);exact ze4 hz hcs hr1 hrow hf.susp (by omega) (by omega)
  ·omega
theorem znV(M:Nat){N:Nat}(hN:N<=100000):∀ n,n<=N->zbg M N n
 |0,_=>fun _ _ _ _ _ _ _ _ _ _ _ _ _ hr _ _=>hr.elim
 |n+1,hn=>by
  have hW:=znV M hN n (by omega);intro Z w cb bb rv sv kv v fns q e below h hr hf hb;have hr0:=hr;rcases hr with ⟨hk,_⟩|⟨hk,_⟩|⟨hk,_⟩|⟨hk,_⟩|⟨hk,u1,u2,d1,d2,k1,rfl,k3,k4⟩|⟨hk,u1,u2,d1,d2,k1,rfl,k3,k4⟩|⟨hk,_⟩|⟨hk,cv,sv1,b,bodies,nvs,bvs,k1,rfl,k3,k4,k5,k6,k7,k8,k9⟩
  ·exact zdP hW hn h hr0 hf hb (by omega)
  ·exact zdP hW hn h hr0 hf hb (by omega)
  ·exact zdP hW hn h hr0 hf hb (by omega)
  ·exact zdP hW hn h hr0 hf hb (by omega)
  ·exact zkh hN hW hn h hk k1 k3 k4 hf hb
  ·exact zpi hW hn h hk k1 k3 k4 hf hb
  ·exact zmj hW hn h hk hr0 hf hb
  ·exact zjc hW hn h hk k1 k3 k4 k5 k6 k7 k8 k9 hf hb
end Go.Proofs.YtgahgkddaljmkaaGreatDoor
