/- Cmp43 .. Cmp49 -/
import Derived.Test.YtgahgkddaljmkaaGreatDoorT11
set_option maxRecDepth 100000
set_option maxHeartbeats 4000000
namespace Go.Proofs.YtgahgkddaljmkaaGreatDoor
open Tryz
open Go.RowKit Go.Shelf
variable {M N:Nat}{fns:List Cp.Nm}{q:Cp.Bs}{e d:Th.Ex}
theorem Fit.part{b:Cp.Bs}(h:Fit M N fns q e)(hd:Cp.Dp N d)(hw:Cp.wt N d<=Cp.wt N e)(hs:∀ x∈Cp.free N d,x≠[]/\(x∈b.zac\/x∈fns))(h1:b.code.length+(M+8)*Cp.wt N d<=q.code.length+(M+8)*Cp.wt N e)(h2:b.zac.length+(M+8)*Cp.wt N d<=q.zac.length+(M+8)*Cp.wt N e)(h3:b.blocks.length+8*Cp.wt N d<=q.blocks.length+8*Cp.wt N e):Fit M N fns b d:=
 ⟨hd,zyR hw h.wt,h.mm,h.fl,hs,zyR h1 h.cl,zyR h2 h.sl,zyR h3 h.bl⟩
theorem Cp.zgt{N:Nat}:∀ (m:Nat) (e:Th.Ex),Cp.Dp N e->e.kind=5->(∀ x∈Cp.free N (Cp.spread m e).1,x∈Cp.free N e)/\∀ d∈(Cp.spread m e).2,∀ x∈Cp.free N d,x∈Cp.free N e
 |0,e,h,_=>by simp[Cp.spread]
 |m+1,e,h,h5=>by
  obtain ⟨f,a,hk⟩:=h.zea.k5 (.inl h5);have ak:=h.free;rw[hk]at ak;simp[h5]at ak;rw[Cp.spread,hk];simp only;split
  ·next Ep=>
   obtain ⟨i1,i2⟩:=Cp.zgt m f (h.kid (by simp[hk])) Ep;refine ⟨fun x hx=>?_,fun d hd x hx=>?_⟩
   ·rw[ak];exact Cp.zaw.2 (.inl (i1 x hx))
   ·rw[ak];rcases zzi.1 hd with hd|hd
    ·exact Cp.zaw.2 (.inl (i2 d hd x hx))
    ·rw[zze.1 hd]at hx;exact Cp.zaw.2 (.inr hx)
  ·refine ⟨fun x hx=>?_,fun d hd x hx=>?_⟩
   ·rw[ak];exact Cp.zaw.2 (.inl hx)
   ·rw[ak];rw[zze.1 hd]at hx;exact Cp.zaw.2 (.inr hx)
theorem Cp.zwp(f:Th.Ex->Nat)(l:List Th.Ex)(k:Nat):((l.drop k).map f).sum<=(l.map f).sum:=by
 have h:(l.map f).sum=((l.take k).map f).sum+((l.drop k).map f).sum:=by rw[<-zz5,<-zz3,zAj]
 omega
variable {n:Nat}{Z:Nat->Prop}{w:World}{cb bb below:Nat}{rv sv kv v:Value}
theorem zd8(hW:zbi M N n)(hn:n+1<=N)(h:BS Z w cb bb rv sv kv fns q)(hr:Rep Z w (n+1) v e)(hf:Fit M N fns q e)(hb:below+(M+8)*Cp.wt N e<=1000000000)(mM:e.kind<=4):
  Calls prog 54 #[.pointer (some ⟨bb,0,none⟩),v,.int .i64 below] w fun r w'=>r=.returned (.tuple #[])/\Did Z w cb bb rv sv kv fns (Cp.work (Cp.free N) fns (n+1) e below q) w':=by
 have hH:=zti hW hn h hr hf mM;have aK:=hf.sl;have aN:=hf.cl;have hp:=hf.dp.pos;have hM:M+8<=(M+8)*Cp.wt N e:=zzU _ hp;have hc:=(Cp.znR (Cp.zaK M N fns n) fns q hf.dp hf.wt).2.2;have he:Cp.work (Cp.free N) fns (n+1) e below q=(Cp.zaI (Cp.work (Cp.free N) fns n) (Cp.free N) fns q e).ends (below+1) .enter:=by
  rw[Cp.work,if_neg (by omega),if_neg (by omega),if_neg (by omega),if_neg (by omega)]
 rw[he];rcases hr with ⟨hk,rfl⟩|⟨hk,rfl⟩|⟨hk,rfl⟩|⟨hk,bf,bv,b,k1,rfl,k3,k4⟩|⟨hk,u1,u2,d1,d2,k1,rfl,k3,k4⟩|⟨hk,u1,u2,d1,d2,k1,rfl,k3,k4⟩|⟨hk,bf,bv,b,parts,pvs,k1,rfl,k3,k4,k5,k6,k7⟩|⟨hk,cv,bf,b,ag,nvs,bvs,k1,rfl,k3,k4,k5,k6,k7,k8,k9⟩
 ·exact zp7 (by omega) (by omega) hH
 ·exact zwH (by omega) (by omega) hH
 ·exact zsl (by omega) (by omega) hH
 ·exact zp6 (by omega) (by omega) hH
 all_goals omega
theorem zkp(hN:N<=100000)(hW:zbi M N n)(hn:n+1<=N){u1 u2:Value}{d1 d2:Th.Ex}(h:BS Z w cb bb rv sv kv fns q)(hk:e.kind=5)(k1:e.kids=[d1,d2])(k3:Rep Z w n u1 d1)(k4:Rep Z w n u2 d2)(hf:Fit M N fns q e)(hb:below+(M+8)*Cp.wt N e<=1000000000):
  Calls prog 54 #[.pointer (some ⟨bb,0,none⟩),.iface 163 (.agg #[u1,u2]),.int .i64 below] w fun r w'=>r=.returned (.tuple #[])/\Did Z w cb bb rv sv kv fns (Cp.work (Cp.free N) fns (n+1) e below q) w':=by
 obtain ⟨t1,x1,rfl⟩:=zah k3;obtain ⟨t2,x2,rfl⟩:=zah k4;obtain ⟨s1,s2,s3⟩:=Cp.zeY (n+1) e hf.dp;obtain ⟨s5,s6⟩:=Cp.zgt (n+1) e hf.dp hk;have s4:=Cp.zhU (m:=n) k1;have eB:=Cp.zom n e d1 d2 _ k1 k3;have mY:=fun W (fW:Fr (fun _=>False) w W)=>zlS (Z:=Z) (n:=n) (by omega) n (zyN _) (w:=W) (fun k hk=>zyS (h.zlt k hk) fW.size) (k3.fr0 fW) (k4.fr0 fW)
 have he:Cp.work (Cp.free N) fns (n+1) e below q=Cp.work (Cp.free N) fns n (Cp.spread (n+1) e).1 (below+(Cp.spread (n+1) e).2.length+1) (((Cp.spread (n+1) e).2.reverse.foldl (Cp.zaI (Cp.work (Cp.free N) fns n) (Cp.free N) fns) q).push (.zbF (Cp.spread (n+1) e).2.length)):=by
  rw[Cp.work,if_pos hk]
 rw[he];rw[<-eB]at mY;clear he eB;generalize Cp.spread (n+1) e=s at s1 s2 s3 s4 s5 s6 mY ⊢;obtain ⟨fe,es⟩:=s;simp only at s1 s2 s3 s4 s5 s6 mY ⊢;have hw:=hf.wt;have hm:=hf.mm;have aN:=hf.cl;have aK:=hf.sl;have hmul:(M+8)*(Cp.wt N fe+(es.map (Cp.wt N)).sum+es.length)<=(M+8)*Cp.wt N e:=zzp _ s1;rw[zzI,zzI]at hmul;have cQ:∀ x∈es,Cp.Dp N x/\Cp.wt N x<=M:=fun x hx=>⟨s3 x hx,by have:=Cp.zbj (f:=Cp.wt N) hx;omega⟩
 have bp:1<=(es.map (Cp.wt N)).sum:=by
  cases es with
  |nil=>simp at s4
  |cons x es=>have:=(s3 x (by simp)).pos;simp;omega
 have oN:M+8<=(M+8)*(es.map (Cp.wt N)).sum:=zzU _ bp;have jo:(M+1)*es.length<=(M+8)*es.length:=Nat.mul_le_mul_right _ (by omega);have sH:es.length<=(M+8)*es.length:=zzX _ (by omega);obtain ⟨a1,a2,a3⟩:=Cp.zcf (Cp.zaK M N fns n) fns es.reverse q (fun x hx=>cQ x (by simpa using hx));have dh:(es.reverse.map (Cp.wt N)).sum=(es.map (Cp.wt N)).sum:=by rw[List.map_reverse,List.sum_reverse]
 rw[dh]at a1;rw[zy4]at a3;have Du:(es.reverse.foldl (Cp.zaI (Cp.work (Cp.free N) fns n) (Cp.free N) fns) q).zac.length=q.zac.length+es.length:=by rw[a2];simp
 refine zuO (fun W fW=>zsK hW (h.fr0 fW) (fun W2 wH=>mY W2 (fW.trans wH)) ?_ (by omega) (by omega) (by omega) ?_ (by omega))
 ·intro i e' Z1 W1 bh bf cA v lZ hi aA dd;refine zwT hW hn aA dd ?_;have fO:=zy1 lZ;have aj:es.length-(i+1)<es.length:=by omega
  have r5:es.drop (es.length-(i+1))=e'::es.drop (es.length-i):=by
   rw[zzs aj,show es.length-(i+1)+1=es.length-i by omega];rw[zyM aj]at lZ;cases lZ;rfl
  have E8:=Cp.zwp (Cp.wt N) es (es.length-(i+1));rw[r5,zza,zzd]at E8;obtain ⟨b1,b2,b3⟩:=Cp.zcf (Cp.zaK M N fns n) fns (es.drop (es.length-i)).reverse q (fun x hx=>cQ x (List.mem_of_mem_drop (by simpa using hx)));have lE:((es.drop (es.length-i)).reverse.map (Cp.wt N)).sum=((es.drop (es.length-i)).map (Cp.wt N)).sum:=by rw[List.map_reverse,List.sum_reverse]
  rw[lE]at b1;have rY:(es.drop (es.length-i)).reverse.length=i:=by simp;omega
  rw[rY]at b2 b3;have lg:(M+1)*i<=(M+8)*es.length:=zAg (by omega) (by omega);have GC:(M+8)*Cp.wt N e'<=(M+8)*(es.map (Cp.wt N)).sum:=zzp _ (by omega);refine hf.part (s3 e' fO) (by omega) (fun x hx=>?_) (by omega) (by rw[b2];simp;omega) (by omega);obtain ⟨c1,c2⟩:=hf.nm x (s6 e' fO x hx);refine ⟨c1,?_⟩;rw[b2];rcases c2 with c2|c2
  ·exact .inl (by simp[c2])
  ·exact .inr c2
 ·refine hf.part s2 (by omega) (fun x hx=>?_) (by simp only[Cp.Bs.push,zyT,zy0];omega) (by simp only[Cp.Bs.push,zyT,zy0];omega) (by simp only[Cp.Bs.push];omega);obtain ⟨c1,c2⟩:=hf.nm x (s5 x hx);refine ⟨c1,?_⟩;simp only[Cp.Bs.push];rw[a2];rcases c2 with c2|c2
  ·exact .inl (by simp[c2])
  ·exact .inr c2
theorem sum8(N:Nat)(l:List Th.Ex):(l.map fun d=>8*Cp.wt N d+1).sum=8*(l.map (Cp.wt N)).sum+l.length:=by
 induction l with
 |nil=>rfl
 |cons d l ih=>simp only[zza,zzd,zy8,ih];omega
theorem zp8(hW:zbi M N n)(hn:n+1<=N){u1 u2:Value}{d1 d2:Th.Ex}(h:BS Z w cb bb rv sv kv fns q)(hk:e.kind=6)(k1:e.kids=[d1,d2])(k3:Rep Z w n u1 d1)(k4:Rep Z w n u2 d2)(hf:Fit M N fns q e)(hb:below+(M+8)*Cp.wt N e<=1000000000):
  Calls prog 54 #[.pointer (some ⟨bb,0,none⟩),.iface 166 (.agg #[.string ⟨e.tok.s.toArray⟩,u1,u2]),.int .i64 below] w fun r w'=>r=.returned (.tuple #[])/\Did Z w cb bb rv sv kv fns (Cp.work (Cp.free N) fns (n+1) e below q) w':=by
 obtain ⟨t1,x1,rfl⟩:=zah k3;obtain ⟨t2,x2,rfl⟩:=zah k4;have hw:=hf.wt;have hm:=hf.mm;have aN:=hf.cl;have aK:=hf.sl;have cV:=hf.bl;have bZ:=hf.fl;have E3:=hf.prod;have dj:=hf.dp.wt;rw[k1]at dj;simp at dj;have ux:=hf.dp.kid (k:=d1) (by simp[k1]);have pP:=hf.dp.kid (k:=d2) (by simp[k1]);have ak:=hf.dp.free;rw[k1]at ak;simp[hk]at ak;have mQ:(M+8)*(Cp.wt N d1+Cp.wt N d2+1)<=(M+8)*Cp.wt N e:=zzp _ (by omega);rw[zzI,zzI]at mQ;have aC:=Cp.zaZ N d2;obtain ⟨names,bu⟩:∃ names,names=Cp.zai q.zac (Cp.free N d2):=⟨_,rfl⟩;have ev:=Cp.zbg q.zac (Cp.free N d2);rw[<-bu]at ev;obtain ⟨sl,jx⟩:∃ sl:List Cp.Nm,sl=([]::names).reverse:=⟨_,rfl⟩;have s8:sl.length=names.length+1:=by rw[jx];simp
 obtain ⟨R,hR⟩:∃ R,R=Cp.zjJ (Cp.work (Cp.free N) fns n d2 2) ⟨e.tok.s.toArray⟩ ⟨q.blocks,sl,[]⟩:=⟨_,rfl⟩;have DY:R.blocks.length<=q.blocks.length+8*Cp.wt N d2:=by
  have:=(Cp.zaK M N fns n d2 2 (Cp.Bs.push ⟨q.blocks++[(2,[.comp ⟨e.tok.s.toArray⟩,.enter])],sl++[[]],[.zbX,.push (sl.length-1)]⟩ (.wait q.blocks.length)) pP (by omega)).2.2;rw[hR];unfold Cp.zjJ;simp only[Cp.Bs.push,Cp.Bs.write,zyT,zy0,zzb,zy7]at this ⊢;omega
 have he:Cp.work (Cp.free N) fns (n+1) e below q=Cp.work (Cp.free N) fns n d1 (below+names.length+1) ((Cp.Bs.zak fns ⟨R.blocks++[(sl.length,R.code)],q.zac,q.code⟩ names).push (.wait R.blocks.length)):=by
  rw[Cp.work,if_neg (by omega),if_pos hk,k1];simp only;rw[<-bu,<-jx,hR];rfl
 rw[he];have iL:∀ x∈Cp.free N d2,x≠[]/\(x∈names\/x∈fns):=fun x hx=>by
  obtain ⟨c1,c2⟩:=hf.nm x (by rw[ak];exact Cp.zaw.2 (.inr hx));refine ⟨c1,?_⟩;rcases c2 with c2|c2
  ·exact .inl (by rw[bu];exact Cp.zbK.2 ⟨hx,c2⟩)
  ·exact .inr c2
 refine zk8 (blk:=R.blocks.length) (bl:=R.blocks++[(sl.length,R.code)]) (names:=names) h k3 (fun W fW=>zgU N ((k4.fr0 fW).le (by omega)) (by omega)) bu (by omega) (by omega) ?_ ?_
 ·intro Z1 W nv hZ fW aE af;refine ztY hW jx hR aE (k4.frz fW (by simp) (fun k _ x=>hZ k x)) af (fun b2 cd aw rV=>?_) (by omega) (by omega) (by omega) (by omega);refine ⟨pP,by omega,hm,bZ,fun x hx=>?_,by simp only;omega,by simp only[zyT,zy0];omega,by simp only;omega⟩;obtain ⟨c1,c2⟩:=iL x hx;refine ⟨c1,?_⟩;rcases c2 with c2|c2
  ·exact .inl (by simp[jx,c2])
  ·exact .inr c2
 ·intro Z1 W bh bf cA nv aA dd af;obtain ⟨c,u1,u2⟩:=Cp.zd6 fns ⟨R.blocks++[(sl.length,R.code)],q.zac,q.code⟩ names;refine zqY hW aA dd af ?_ (by simp only;omega) (by simp only;omega) (by omega) ?_ (by omega)
  ·intro x hx;rw[bu]at hx;obtain ⟨g1,g2⟩:=Cp.zbK.1 hx;exact ⟨(iL x g1).1,fun hs=>absurd g2 (Cp.zca.1 hs)⟩
  ·rw[u1];refine hf.part ux (by omega) (fun x hx=>?_) (by simp only[Cp.Bs.push,zyT,zy0];omega) (by simp only[Cp.Bs.push,zyT,zy0,zzz];omega) (by simp only[Cp.Bs.push,zyT,zy0];omega);obtain ⟨c1,c2⟩:=hf.nm x (by rw[ak];exact Cp.zaw.2 (.inl hx));refine ⟨c1,?_⟩;simp only[Cp.Bs.push];rcases c2 with c2|c2
   ·exact .inl (by simp[c2])
   ·exact .inr c2
theorem zkq(hW:zbi M N n)(hn:n+1<=N){cv av:Value}{s:Th.Ex}{ag:List Th.Ex}{nvs bvs:List Value}(h:BS Z w cb bb rv sv kv fns q)(hk:e.kind=9)(k1:e.kids=s::ag)(k3:ag.length=e.zao.length)(k4:nvs.length=e.zao.length)(k5:bvs.length=e.zao.length)(k6:Row Z w 240 3 av e.zao.length (za7 e.zao nvs bvs))(k7:∀ (i:Nat) (a:Nat × List Th.Tok) (nv:Value),e.zao[i]?=some a->nvs[i]?=some nv->Row Z w 88 2 nv a.2.length (zaj a.2))(k8:∀ (i:Nat) (bv:Value) (p:Th.Ex),bvs[i]?=some bv->ag[i]?=some p->Rep Z w n bv p)(k9:Rep Z w n cv s)(hf:Fit M N fns q e)(hb:below+(M+8)*Cp.wt N e<=1000000000):
  Calls prog 54 #[.pointer (some ⟨bb,0,none⟩),.iface 173 (.agg #[cv,av]),.int .i64 below] w fun r w'=>r=.returned (.tuple #[])/\Did Z w cb bb rv sv kv fns (Cp.work (Cp.free N) fns (n+1) e below q) w':=by
 obtain ⟨t1,x1,rfl⟩:=zah k9;obtain ⟨pp,pn,pc,rfl⟩:=zae k6;have hw:=hf.wt;have hm:=hf.mm;have aN:=hf.cl;have aK:=hf.sl;have cV:=hf.bl;have bZ:=hf.fl;have E3:=hf.prod;have dj:=hf.dp.wt;rw[k1]at dj;simp only[zza,zzd]at dj;have ux:=hf.dp.kid (k:=s) (by simp[k1]);have pP:∀ d∈ag,Cp.Dp N d:=fun d hd=>hf.dp.kid (by simp[k1,hd])
 have ak:=hf.dp.free;rw[k1]at ak;simp[hk]at ak;have mQ:(M+8)*(Cp.wt N s+1+(ag.map (Cp.wt N)).sum)<=(M+8)*Cp.wt N e:=zzp _ (by omega);rw[zzI,zzI]at mQ;have aU:=Cp.zbN (Cp.free N) (Cp.wt N) (Cp.zaZ N) e.zao ag [];simp only[zzm,zzG]at aU;have Ea:=zl4 e.zao;obtain ⟨names,bu⟩:∃ names,names=Cp.zai q.zac (Cp.zas (Cp.free N) e.zao ag []):=⟨_,rfl⟩;have ev:=Cp.zbg q.zac (Cp.zas (Cp.free N) e.zao ag []);rw[<-bu]at ev;obtain ⟨sl,jx⟩:∃ sl:List Cp.Nm,sl=([]::names).reverse:=⟨_,rfl⟩;obtain ⟨R,hR⟩:∃ R,R=(Cp.armsOf (Cp.work (Cp.free N) fns n) names e.zao ag ⟨q.blocks,sl,[]⟩ []).1.write (.choose (Cp.armsOf (Cp.work (Cp.free N) fns n) names e.zao ag ⟨q.blocks,sl,[]⟩ []).2):=⟨_,rfl⟩;have DY:R.blocks.length<=q.blocks.length+8*(ag.map (Cp.wt N)).sum:=by
  have:=(Cp.zeH (Cp.zaK M N fns n) names e.zao ag ⟨q.blocks,sl,[]⟩ [] (fun d hd=>⟨pP d hd,by have:=Cp.zbj (f:=Cp.wt N) hd;omega⟩)).1;rw[hR];exact this
 have he:Cp.work (Cp.free N) fns (n+1) e below q=Cp.work (Cp.free N) fns n s (below+names.length+1) ((Cp.Bs.zak fns ⟨R.blocks++[(sl.length,R.code)],q.zac,q.code⟩ names).push (.wait R.blocks.length)):=by
  rw[Cp.work,if_neg (by omega),if_neg (by omega),if_pos hk,k1];simp only;rw[<-bu,<-jx,hR];rfl
 rw[he];have lE:=sum8 N ag;have iL:∀ x∈Cp.zas (Cp.free N) e.zao ag [],x≠[]/\(x∈names\/x∈fns):=fun x hx=>by
  obtain ⟨c1,c2⟩:=hf.nm x (by rw[ak];exact Cp.zaw.2 (.inr hx));refine ⟨c1,?_⟩;rcases c2 with c2|c2
  ·exact .inl (by rw[bu];exact Cp.zbK.2 ⟨hx,c2⟩)
  ·exact .inr c2
 refine zuP (blk:=R.blocks.length) (bl:=R.blocks++[(sl.length,R.code)]) (names:=names) (l:=Cp.zas (Cp.free N) e.zao ag []) h k9 (fun W fW=>?_) bu (by omega) (by omega) ?_ ?_
 ·refine zf8 (g:=Cp.wt N) (Cp.zaZ N) k3 k4 k5 (Row.frc k6 fW (by simp)) (fun i a nv hi hv=>⟨Row.frc (k7 i a nv hi hv) fW (by simp),by have:=ziL hi;omega⟩) (fun i bv p hi hp=>⟨zah (k8 i bv p hi hp),fun W' bQ=>?_⟩) (by omega) (by omega);exact zgU N ((((k8 i bv p hi hp).fr0 fW).fr0 bQ).le (by omega)) (by have:=Cp.zbj (f:=Cp.wt N) (zy1 hp);omega)
 ·intro Z1 W nv hZ fW aE af;refine zu7 hW jx hR aE k3 k4 k5 (k6.frz fW (by simp) (fun k _ x=>hZ k x)) af (fun i a nv hi hv=>(k7 i a nv hi hv).frz fW (by simp) (fun k _ x=>hZ k x)) (fun i bv p hi hp=>(k8 i bv p hi hp).frz fW (by simp) (fun k _ x=>hZ k x)) (hf.dp.zea.k9 hk).1 (fun d q' hd=>?_) (fun i a d b hi hd iC=>?_) (by rw[lE];omega) (by omega) (by omega) (by omega)
  ·have:=(Cp.zaK M N fns n d 0 q' (pP d hd) (by have:=Cp.zbj (f:=Cp.wt N) hd;omega)).2.2;omega
  ·have rZ:=zy1 hd;have r6:=Cp.zbj (f:=Cp.wt N) rZ;have Gu:=ziL hi;have cu:=Cp.zcs a.2;have GM:(M+8)*Cp.wt N d<=(M+8)*(ag.map (Cp.wt N)).sum:=zzp _ r6;refine ⟨⟨pP d rZ,by omega,hm,bZ,fun x hx=>?_,by simp only[zzm];omega,by simp only[zy4,zyT];omega,iC⟩,by omega⟩;by_cases fT:x∈Th.texts a.2
   ·have aH:x≠[]:=by
     obtain ⟨t,h1,h2⟩:=zz1.1 fT;rw[<-h2];exact (hf.dp.zea.am a (zy1 hi)).2 t h1
    exact ⟨aH,.inl (by simp[fT])⟩
   ·obtain ⟨c1,c2⟩:=iL x (Cp.zcL.2 (.inr ⟨i,a,d,hi,hd,hx,fT⟩));refine ⟨c1,?_⟩;rcases c2 with c2|c2
    ·exact .inl (by simp[c2])
    ·exact .inr c2
 ·intro Z1 W bh bf cA nv aA dd af;obtain ⟨c,u1,u2⟩:=Cp.zd6 fns ⟨R.blocks++[(sl.length,R.code)],q.zac,q.code⟩ names;have Gx:=ux.pos;refine zqY hW aA dd af ?_ (by simp only;omega) (by simp only;omega) (by omega) ?_ (by omega)
  ·intro x hx;rw[bu]at hx;obtain ⟨g1,g2⟩:=Cp.zbK.1 hx;exact ⟨(iL x g1).1,fun hs=>absurd g2 (Cp.zca.1 hs)⟩
  ·rw[u1];refine hf.part ux (by omega) (fun x hx=>?_) (by simp only[Cp.Bs.push,zyT,zy0];omega) (by simp only[Cp.Bs.push,zyT,zy0,zzz];omega) (by simp only[Cp.Bs.push,zyT,zy0];omega);obtain ⟨c1,c2⟩:=hf.nm x (by rw[ak];exact Cp.zaw.2 (.inl hx));refine ⟨c1,?_⟩;simp only[Cp.Bs.push];rcases c2 with c2|c2
   ·exact .inl (by simp[c2])
   ·exact .inr c2
theorem Cp.zig(wk:Th.Ex->Nat->Cp.Bs->Cp.Bs)(fr:Th.Ex->List Cp.Nm)(p:Th.Ex):∀ (l:List Th.Ex) (b:Cp.Bs) (a:List (List Cp.Nm)),Cp.makeAll wk fr (l++[p]) b a =
  ((Cp.zal wk fr (Cp.makeAll wk fr l b a).1 p).1.write (.hold (Cp.zal wk fr (Cp.makeAll wk fr l b a).1 p).2.1 (Cp.zal wk fr (Cp.makeAll wk fr l b a).1 p).2.2.length),(Cp.makeAll wk fr l b a).2++[(Cp.zal wk fr (Cp.makeAll wk fr l b a).1 p).2.2])
 |[],b,a=>rfl
 |x::l,b,a=>by
  rw[zy7,Cp.makeAll,Cp.makeAll];exact Cp.zig wk fr p l _ _
theorem Cp.zib(fns:List Cp.Nm)(x:List Cp.Nm):∀ (l:List (List Cp.Nm)) (i:Nat) (b:Cp.Bs),Cp.zbf fns i (l++[x]) b=((((Cp.zbf fns i l b).zak fns x).drop x.length).write (.fill (i+l.length) x.length))
 |[],i,b=>rfl
 |y::l,i,b=>by
  rw[zy7,Cp.zbf,Cp.zbf,Cp.zib fns x l (i+1) _];rw[show i+1+l.length=i+(y::l).length by simp;omega]
variable {i:Nat}
theorem zj1{α:Type}{l:List α}{p:α}(h:l[i]?=some p):l.take (i+1)=l.take i++[p]:=by
 rw[zAn,h];rfl
theorem Cp.zqW(f:Th.Ex->Nat){l:List Th.Ex}{p:Th.Ex}(h:l[i]?=some p):((l.take i).map f).sum+f p<=(l.map f).sum:=by
 have h1:(l.map f).sum=((l.take (i+1)).map f).sum+((l.drop (i+1)).map f).sum:=by rw[<-zz5,<-zz3,zAj]
 rw[zj1 h,zz3,zz5]at h1;simp only[zza,List.map_nil,zzd,List.sum_nil]at h1;omega
theorem zfD{l:List Th.Tok}(h:∀ t∈l,t.s≠[]){x:Cp.Nm}(hx:x∈Th.texts l):x≠[]:=by
 obtain ⟨t,h1,h2⟩:=zz1.1 hx;rw[<-h2];exact h t h1
variable {parts:List Th.Ex}
theorem ztr{wk:Th.Ex->Nat->Cp.Bs->Cp.Bs}(hw:Cp.zb8 M N wk)(hk:e.kind=7\/e.kind=8)(k1:e.kids=d::parts)(k3:parts.length=e.names.length)(hf:Fit M N fns q e):Fit M N fns (Cp.zdq wk (Cp.free N) fns e parts q) d:=by
 obtain ⟨a1,a2,a3⟩:=Cp.zdU hw fns k1 k3 q hf.dp hf.wt;have dj:=hf.dp.wt;rw[k1]at dj;simp only[zza,zzd]at dj;have mQ:(M+8)*(Cp.wt N d+e.names.length+1)<=(M+8)*Cp.wt N e:=zzp _ (by omega);rw[zzI,zzI]at mQ;have ev:e.names.length<=(M+8)*e.names.length:=zzX _ (by omega);have cu:=Cp.zcs e.names;refine hf.part (hf.dp.kid (by simp[k1])) (by omega) (fun x hx=>?_) (by omega) (by rw[a2,zyT];omega) (by omega);rw[a2];by_cases fT:x∈Th.texts e.names
 ·exact ⟨zfD hf.dp.zea.nm fT,.inl (by simp[fT])⟩
 ·have ak:=hf.dp.free;rw[k1]at ak;have tE:x∈Cp.free N e:=by
   rw[ak];rcases hk with hk|hk
   ·simp only[hk];simp[Cp.zaw,Cp.zaN,hx,fT]
   ·simp only[hk];simp[Cp.zaw,Cp.zaN,hx,fT]
  obtain ⟨c1,c2⟩:=hf.nm x tE;refine ⟨c1,?_⟩;rcases c2 with c2|c2
  ·exact .inl (by simp[c2])
  ·exact .inr c2
variable {pv:Value}
theorem zvP(hW:zbi M N n)(hn:n+1<=N){bv:Value}{pvs:List Value}(h:BS Z w cb bb rv sv kv fns q)(hk:e.kind=8)(k1:e.kids=d::parts)(k3:parts.length=e.names.length)(k4:pvs.length=e.names.length)(k5:Row Z w 312 3 pv e.names.length (zaM e.names pvs))(k6:∀ (i:Nat) (bv:Value) (p:Th.Ex),pvs[i]?=some bv->parts[i]?=some p->Rep Z w n bv p)(k7:Rep Z w n bv d)(hf:Fit M N fns q e):
  Calls prog 94 #[.pointer (some ⟨bb,0,none⟩),.agg #[.bool true,pv,bv],.int .i64 0] w fun r w'=>r=.returned (.tuple #[])/\Did Z w cb bb rv sv kv fns (Cp.zkD (Cp.work (Cp.free N) fns n) (Cp.free N) fns e q) w':=by
 obtain ⟨pp,pn,pc,rfl⟩:=zae k5;obtain ⟨bt,bx,rfl⟩:=zah k7;have aX:=Cp.zaK M N fns n;have oW:=ztr aX (.inr hk) k1 k3 hf;have Et:=oW.prod;have hw:=hf.wt;have hm:=hf.mm;have aN:=hf.cl;have aK:=hf.sl;have bZ:=hf.fl;have dj:=hf.dp.wt;rw[k1]at dj;simp only[zza,zzd]at dj;have cu:=Cp.zcs e.names;have mQ:(M+8)*(Cp.wt N d+(parts.map (Cp.wt N)).sum+e.names.length+1)<=(M+8)*Cp.wt N e:=zzp _ (by omega);rw[zzI,zzI,zzI]at mQ;have ev:e.names.length<=(M+8)*e.names.length:=zzX _ (by omega);have cQ:∀ x∈parts,Cp.Dp N x/\Cp.wt N x<=M:=fun x hx=>⟨hf.dp.kid (by simp[k1,hx]),by have:=Cp.zbj (f:=Cp.wt N) hx;omega⟩
 have bp:0<e.names.length:=zzA.2 (hf.dp.zea.k7 (.inr hk)).1;obtain ⟨b,dq⟩:∃ b:Cp.Bs,b=⟨q.blocks,q.zac++Th.texts e.names,q.code⟩:=⟨_,rfl⟩;have gG:b.zac=q.zac++Th.texts e.names:=by rw[dq]
 have Ed:b.code=q.code:=by rw[dq]
 have iC:b.blocks=q.blocks:=by rw[dq]
 have Ee:b.code.length=q.code.length:=by rw[Ed]
 have Ei:b.zac.length=q.zac.length+e.names.length:=by rw[gG,zyT,cu]
 rw[Cp.zei k1];have hin:Cp.zdq (Cp.work (Cp.free N) fns n) (Cp.free N) fns e parts q=Cp.zbf fns q.zac.length (Cp.makeAll (Cp.work (Cp.free N) fns n) (Cp.free N) parts b []).2 (Cp.makeAll (Cp.work (Cp.free N) fns n) (Cp.free N) parts b []).1:=by
  unfold Cp.zdq;rw[if_pos hk,dq]
 obtain ⟨m1,m2,m3,m4,m5⟩:=Cp.zg2 aX parts b [] cQ (by simp);have xL:∀ i,(Cp.makeAll (Cp.work (Cp.free N) fns n) (Cp.free N) (parts.take i) b []).1.blocks.length<=b.blocks.length+8*((parts.take i).map (Cp.wt N)).sum/\(Cp.makeAll (Cp.work (Cp.free N) fns n) (Cp.free N) (parts.take i) b []).1.zac=b.zac/\(Cp.makeAll (Cp.work (Cp.free N) fns n) (Cp.free N) (parts.take i) b []).1.code.length=b.code.length+(parts.take i).length:=fun i=>by
  obtain ⟨c1,c2,c3,_,_⟩:=Cp.zg2 aX (parts.take i) b [] (fun x hx=>cQ x (zAp hx)) (by simp);exact ⟨c1,c2,c3⟩
 have aY:∀ i,i<e.names.length->∃ p,parts[i]?=some p/\p∈parts:=fun i hi=>⟨parts[i]'(by omega),zyM (by omega),List.getElem_mem _⟩
 rw[zzb]at m4;have hmul:∀ i,i<=e.names.length->(M+1)*i+e.names.length<=(M+8)*e.names.length:=fun i hi=>by
  have h1:(M+1)*i<=(M+1)*e.names.length:=zzp _ hi;have h2:(M+8)*e.names.length=(M+1)*e.names.length+7*e.names.length:=by rw[<-Nat.add_mul]
  omega
 have iY:∀ i,i<=e.names.length->(Cp.zbf fns q.zac.length ((Cp.makeAll (Cp.work (Cp.free N) fns n) (Cp.free N) parts b []).2.take i) (Cp.makeAll (Cp.work (Cp.free N) fns n) (Cp.free N) parts b []).1).zac=b.zac/\(Cp.zbf fns q.zac.length ((Cp.makeAll (Cp.work (Cp.free N) fns n) (Cp.free N) parts b []).2.take i) (Cp.makeAll (Cp.work (Cp.free N) fns n) (Cp.free N) parts b []).1).code.length<=b.code.length+(M+8)*e.names.length:=fun i hi=>by
  obtain ⟨c1,c2,c3⟩:=Cp.zje (M:=M) fns ((Cp.makeAll (Cp.work (Cp.free N) fns n) (Cp.free N) parts b []).2.take i) q.zac.length (Cp.makeAll (Cp.work (Cp.free N) fns n) (Cp.free N) parts b []).1 (fun x hx=>m5 x (zAp hx));have hl:((Cp.makeAll (Cp.work (Cp.free N) fns n) (Cp.free N) parts b []).2.take i).length=i:=by rw[m4];simp;omega
  rw[hl]at c3;have:=hmul i hi;exact ⟨c2.trans m2,by omega⟩
 refine zvN hW h k7 (fun Z1 W hZ fW aA=>?_) oW (by omega);rw[hin];have ll:Cp.zbf fns q.zac.length (Cp.makeAll (Cp.work (Cp.free N) fns n) (Cp.free N) parts b []).2 (Cp.makeAll (Cp.work (Cp.free N) fns n) (Cp.free N) parts b []).1=Cp.zbf fns q.zac.length ((Cp.makeAll (Cp.work (Cp.free N) fns n) (Cp.free N) parts b []).2.take e.names.length) (Cp.makeAll (Cp.work (Cp.free N) fns n) (Cp.free N) parts b []).1:=by
  rw[zy9 (by rw[m4];simp;omega)]
 rw[ll];refine zis (n:=n) (parts:=parts) (pvs:=pvs) (l:=e.names) (st:=fun i=>(Cp.makeAll (Cp.work (Cp.free N) fns n) (Cp.free N) (parts.take i) b []).1)
  (qc:=fun i=>(Cp.zal (Cp.work (Cp.free N) fns n) (Cp.free N) (Cp.makeAll (Cp.work (Cp.free N) fns n) (Cp.free N) (parts.take i) b []).1 (parts.getD i Th.ex0)).1)
  (bk:=fun i=>(Cp.zal (Cp.work (Cp.free N) fns n) (Cp.free N) (Cp.makeAll (Cp.work (Cp.free N) fns n) (Cp.free N) (parts.take i) b []).1 (parts.getD i Th.ex0)).2.1)
  (nms:=fun i=>Cp.zai b.zac (Cp.free N (parts.getD i Th.ex0)))
  (ft:=fun i=>Cp.zbf fns q.zac.length ((Cp.makeAll (Cp.work (Cp.free N) fns n) (Cp.free N) parts b []).2.take i) (Cp.makeAll (Cp.work (Cp.free N) fns n) (Cp.free N) parts b []).1)
  aA k3 k4 (k5.frz fW (by simp) (fun k _ x=>hZ k x)) (fun i bv p hi hp=>(k6 i bv p hi hp).frz fW (by simp) (fun k _ x=>hZ k x)) ?_ ?_ ?_ ?_ ?_ ?_ ?_ (by omega) bp (by omega) (by omega)
 ·simp only[zzR,Cp.makeAll];exact dq
 ·intro i e' Z2 W2 bh bf cA v lZ aw cg;have hg:parts.getD i Th.ex0=e':=by rw[zzW,lZ];rfl
  have fO:=zy1 lZ;obtain ⟨c1,c2,c3⟩:=xL i;have dY:=Cp.zqW (Cp.wt N) lZ;have qf:(parts.take i).length<=e.names.length:=by simp;omega
  have jo:(M+8)*Cp.wt N e'<=(M+8)*(parts.map (Cp.wt N)).sum:=zzp _ (by omega);have hC:=zeL hW hn aw cg (hf.part (cQ e' fO).1 (by omega) (fun x hx=>?_) (by omega) (by rw[c2,gG,zyT];omega) (by rw[iC]at c1;omega))
  ·unfold znk at hC;simp only[hg];rw[c2]at hC;exact hC
  ·rw[c2,gG];by_cases fT:x∈Th.texts e.names
   ·exact ⟨zfD hf.dp.zea.nm fT,.inl (by simp[fT])⟩
   ·have ak:=hf.dp.free;rw[k1]at ak;simp only[hk]at ak;simp at ak;obtain ⟨g1,g2⟩:=hf.nm x (by
     rw[ak];exact Cp.zaw.2 (.inl (Cp.zaN.2 ⟨Cp.zbh.2 (.inr ⟨e',fO,hx⟩),fT⟩)))
    refine ⟨g1,?_⟩;rcases g2 with g2|g2
    ·exact .inl (by simp[g2])
    ·exact .inr g2
 ·intro i hi;obtain ⟨p,hp,pZ⟩:=aY i hi;have hg:parts.getD i Th.ex0=p:=by rw[zzW,hp];rfl
  obtain ⟨c1,c2,c3⟩:=xL i;obtain ⟨bl,Ej⟩:=Cp.zfr (Cp.work (Cp.free N) fns n) (Cp.free N) (Cp.makeAll (Cp.work (Cp.free N) fns n) (Cp.free N) (parts.take i) b []).1 p;have xq:(Cp.zal (Cp.work (Cp.free N) fns n) (Cp.free N) (Cp.makeAll (Cp.work (Cp.free N) fns n) (Cp.free N) (parts.take i) b []).1 p).2.2=Cp.zai b.zac (Cp.free N p):=by rw[Ej,c2]
  simp only[hg];rw[zj1 hp,Cp.zig];simp only;rw[xq]
 ·intro i hi;obtain ⟨p,hp,pZ⟩:=aY i hi;have hg:parts.getD i Th.ex0=p:=by rw[zzW,hp];rfl
  obtain ⟨c1,c2,c3⟩:=xL i;have qf:(parts.take i).length<=e.names.length:=by simp;omega
  simp only[hg];rw[(Cp.zck _ _ _ _).2];omega
 ·simp only[zzR,Cp.zbf];rw[zy9 (by omega)]
 ·intro i hi;obtain ⟨p,hp,pZ⟩:=aY i hi;have hg:parts.getD i Th.ex0=p:=by rw[zzW,hp];rfl
  have fB:(Cp.makeAll (Cp.work (Cp.free N) fns n) (Cp.free N) parts b []).2[i]?=some (Cp.zai b.zac (Cp.free N p)):=by rw[m4];simp[hp]
  have hl:((Cp.makeAll (Cp.work (Cp.free N) fns n) (Cp.free N) parts b []).2.take i).length=i:=by rw[m4];simp;omega
  simp only[hg];rw[zj1 fB,Cp.zib,hl]
 ·intro i hi;obtain ⟨p,hp,pZ⟩:=aY i hi;have hg:parts.getD i Th.ex0=p:=by rw[zzW,hp];rfl
  obtain ⟨c2,c3⟩:=iY i (by omega);have gK:=(cQ p pZ).2;have GA:=zyR (Cp.zbg b.zac (Cp.free N p)) (Cp.zaZ N p);simp only[hg];refine ⟨fun x hx=>?_,by omega,?_⟩
  ·rw[c2];obtain ⟨g1,g2⟩:=Cp.zbK.1 hx;refine ⟨?_,fun hs=>absurd g2 (Cp.zca.1 hs)⟩;by_cases fT:x∈Th.texts e.names
   ·exact zfD hf.dp.zea.nm fT
   ·have ak:=hf.dp.free;rw[k1]at ak;simp only[hk]at ak;simp at ak;exact (hf.nm x (by
     rw[ak];exact Cp.zaw.2 (.inl (Cp.zaN.2 ⟨Cp.zbh.2 (.inr ⟨p,pZ,g1⟩),fT⟩)))).1
  ·rw[c2];omega
theorem zrB(hW:zbi M N n)(hn:n+1<=N){bv:Value}{pvs:List Value}(h:BS Z w cb bb rv sv kv fns q)(hk:e.kind=7)(k1:e.kids=d::parts)(k3:parts.length=e.names.length)(k4:pvs.length=e.names.length)(k5:Row Z w 312 3 pv e.names.length (zaM e.names pvs))(k6:∀ (i:Nat) (bv:Value) (p:Th.Ex),pvs[i]?=some bv->parts[i]?=some p->Rep Z w n bv p)(k7:Rep Z w n bv d)(hf:Fit M N fns q e):
  Calls prog 94 #[.pointer (some ⟨bb,0,none⟩),.agg #[.bool false,pv,bv],.int .i64 0] w fun r w'=>r=.returned (.tuple #[])/\Did Z w cb bb rv sv kv fns (Cp.zkD (Cp.work (Cp.free N) fns n) (Cp.free N) fns e q) w':=by
 obtain ⟨pp,pn,pc,rfl⟩:=zae k5;obtain ⟨bt,bx,rfl⟩:=zah k7;have aX:=Cp.zaK M N fns n;have oW:=ztr aX (.inl hk) k1 k3 hf;have Et:=oW.prod;have hw:=hf.wt;have hm:=hf.mm;have aN:=hf.cl;have aK:=hf.sl;have bZ:=hf.fl;have dj:=hf.dp.wt;rw[k1]at dj;simp only[zza,zzd]at dj;have mQ:(M+8)*(Cp.wt N d+(parts.map (Cp.wt N)).sum+e.names.length+1)<=(M+8)*Cp.wt N e:=zzp _ (by omega);rw[zzI,zzI,zzI]at mQ;have ev:e.names.length<=(M+8)*e.names.length:=zzX _ (by omega);have cQ:∀ x∈parts,Cp.Dp N x/\Cp.wt N x<=M:=fun x hx=>⟨hf.dp.kid (by simp[k1,hx]),by have:=Cp.zbj (f:=Cp.wt N) hx;omega⟩
 have bp:0<e.names.length:=zzA.2 (hf.dp.zea.k7 (.inl hk)).1;rw[Cp.zei k1];have hin:Cp.zdq (Cp.work (Cp.free N) fns n) (Cp.free N) fns e parts q=⟨(parts.foldl (Cp.zaI (Cp.work (Cp.free N) fns n) (Cp.free N) fns) q).blocks,Go.splice (parts.foldl (Cp.zaI (Cp.work (Cp.free N) fns n) (Cp.free N) fns) q).zac q.zac.length (Th.texts e.names),(parts.foldl (Cp.zaI (Cp.work (Cp.free N) fns n) (Cp.free N) fns) q).code⟩:=by
  unfold Cp.zdq;rw[if_neg (by omega)]
 refine zrA hW h k7 (fun Z1 W hZ fW aA=>?_) oW (by omega);rw[hin];have x7:(parts.foldl (Cp.zaI (Cp.work (Cp.free N) fns n) (Cp.free N) fns) q).zac.length=q.zac.length+e.names.length:=by
  rw[(Cp.zcf aX fns parts q cQ).2.1];simp[k3]
 refine zvb (n:=n) (parts:=parts) (pvs:=pvs) (l:=e.names) rfl aA k3 k4 (k5.frz fW (by simp) (fun k _ x=>hZ k x)) (fun i bv p hi hp=>(k6 i bv p hi hp).frz fW (by simp) (fun k _ x=>hZ k x)) ?_ bp (by omega) x7 (by omega);intro i e' Z2 W2 bh bf cA v lZ aw cg;have fO:=zy1 lZ;have dY:=Cp.zqW (Cp.wt N) lZ;have xB:(parts.take i).length<=e.names.length:=by simp;omega
 have jo:(M+8)*Cp.wt N e'<=(M+8)*(parts.map (Cp.wt N)).sum:=zzp _ (by omega);have sH:(M+1)*(parts.take i).length<=(M+8)*e.names.length:=zAg (by omega) xB;obtain ⟨c1,c2,c3⟩:=Cp.zcf aX fns (parts.take i) q (fun x hx=>cQ x (zAp hx));refine zwT hW hn aw cg (hf.part (cQ e' fO).1 (by omega) (fun x hx=>?_) (by omega) (by rw[c2,zyT,zzz];omega) (by omega));have ak:=hf.dp.free;rw[k1]at ak;simp only[hk]at ak;simp at ak;obtain ⟨g1,g2⟩:=hf.nm x (by
  rw[ak];exact Cp.zaw.2 (.inl (Cp.zbh.2 (.inr ⟨e',fO,hx⟩))))
 refine ⟨g1,?_⟩;rw[c2];rcases g2 with g2|g2
 ·exact .inl (by simp[g2])
 ·exact .inr g2
theorem Cp.zhC(hk:e.kind=7\/e.kind=8)(q:Cp.Bs):Cp.work (Cp.free N) fns (n+1) e 0 q=Cp.zkD (Cp.work (Cp.free N) fns n) (Cp.free N) fns e q:=by
 rw[Cp.work,if_neg (by omega),if_neg (by omega),if_neg (by omega),if_pos hk,if_pos rfl]
theorem znf(hW:zbi M N n)(hn:n+1<=N)(h:BS Z w cb bb rv sv kv fns q)(hk:e.kind=7\/e.kind=8)(hr:Rep Z w (n+1) v e)(hf:Fit M N fns q e)(hb:below+(M+8)*Cp.wt N e<=1000000000):
  Calls prog 54 #[.pointer (some ⟨bb,0,none⟩),v,.int .i64 below] w fun r w'=>r=.returned (.tuple #[])/\Did Z w cb bb rv sv kv fns (Cp.work (Cp.free N) fns (n+1) e below q) w':=by
 have hz:zu4 M N (n+1) e:=by
  intro Z w cb bb rv sv kv v fns q h hr hf;rw[Cp.zhC hk];rcases hr with ⟨fy,rfl⟩|⟨fy,rfl⟩|⟨fy,rfl⟩|⟨fy,bf,bv,b,k1,rfl,k3,k4⟩|⟨fy,u1,u2,d1,d2,k1,rfl,k3,k4⟩|⟨fy,u1,u2,d1,d2,k1,rfl,k3,k4⟩|⟨fy,bf,bv,b,parts,pvs,k1,rfl,k3,k4,k5,k6,k7⟩|⟨fy,cv,bf,b,ag,nvs,bvs,k1,rfl,k3,k4,k5,k6,k7,k8,k9⟩
  ·omega
  ·omega
  ·omega
  ·omega
  ·omega
  ·omega
  ·obtain ⟨pp,pn,pc,rfl⟩:=zae k5;obtain ⟨bt,bx,rfl⟩:=zah k7;refine zq0 (below:=0) (fun W fW=>?_);by_cases h8:e.kind=8
   ·rw[show (e.kind == 8)=true by simp[h8]];exact zvP hW hn (h.fr0 fW) h8 k1 k3 k4 (Row.frc k5 fW (by simp)) (fun i bv p hi hp=>(k6 i bv p hi hp).fr0 fW) (k7.fr0 fW) hf
   ·rw[show (e.kind == 8)=false by simp[h8]];exact zrB hW hn (h.fr0 fW) (by omega) k1 k3 k4 (Row.frc k5 fW (by simp)) (fun i bv p hi hp=>(k6 i bv p hi hp).fr0 fW) (k7.fr0 fW) hf
  ·omega
 by_cases kf:below=0
 ·subst kf;exact hz h hr hf
 ·have hw:=hf.wt;have hm:=hf.mm;have aN:=hf.cl;have aK:=hf.sl;have cV:=hf.bl;have bZ:=hf.fl;have aL:=hf.len;have hp:=hf.dp.pos;have hM:M+8<=(M+8)*Cp.wt N e:=zzU _ hp;have hle:=zyR (Cp.zbg q.zac (Cp.free N e)) (Cp.zaZ N e);have Fi:=zex fns q (Cp.zai q.zac (Cp.free N e));have he:Cp.work (Cp.free N) fns (n+1) e below q=Cp.Bs.ends ⟨(Cp.work (Cp.free N) fns (n+1) e 0 ⟨q.blocks,(Cp.zai q.zac (Cp.free N e)).reverse,[]⟩).blocks++[((Cp.zai q.zac (Cp.free N e)).reverse.length,(Cp.work (Cp.free N) fns (n+1) e 0 ⟨q.blocks,(Cp.zai q.zac (Cp.free N e)).reverse,[]⟩).code)],(q.zak fns (Cp.zai q.zac (Cp.free N e))).zac,(q.zak fns (Cp.zai q.zac (Cp.free N e))).code⟩ (below+(Cp.zai q.zac (Cp.free N e)).length) (.jump (Cp.work (Cp.free N) fns (n+1) e 0 ⟨q.blocks,(Cp.zai q.zac (Cp.free N e)).reverse,[]⟩).blocks.length):=by
   rw[Cp.zhC hk];rw[Cp.work,if_neg (by omega),if_neg (by omega),if_neg (by omega),if_pos hk,if_neg kf];simp only[Cp.Bs.zhD];rw[Fi]
  rw[he];have hc:=(Cp.zaK M N fns (n+1) e 0 ⟨q.blocks,(Cp.zai q.zac (Cp.free N e)).reverse,[]⟩ hf.dp hf.wt).2.2;simp only at hc;have fQ:=hr;rcases hr with ⟨fy,rfl⟩|⟨fy,rfl⟩|⟨fy,rfl⟩|⟨fy,bf,bv,b,k1,rfl,k3,k4⟩|⟨fy,u1,u2,d1,d2,k1,rfl,k3,k4⟩|⟨fy,u1,u2,d1,d2,k1,rfl,k3,k4⟩|⟨fy,bf,bv,b,parts,pvs,k1,rfl,k3,k4,k5,k6,k7⟩|⟨fy,cv,bf,b,ag,nvs,bvs,k1,rfl,k3,k4,k5,k6,k7,k8,k9⟩
  ·omega
  ·omega
  ·omega
  ·omega
  ·omega
  ·omega
  ·obtain ⟨pp,pn,pc,rfl⟩:=zae k5;obtain ⟨bt,bx,rfl⟩:=zah k7;refine zq0 (fun W fW=>?_);refine zvO (h.fr0 fW) (fQ.fr0 fW) (fun W2 wH=>zgU N (((fQ.fr0 fW).fr0 wH).le hn) (by omega)) rfl (by omega) (by omega) (by omega) (by omega) (hf.hin q.zac) (by omega) (by omega) (fun Z1 W1 bh nv aE dd af=>?_);exact ze3 hz aE dd af hf.susp (by omega) (by omega)
  ·omega
theorem zo0(M:Nat){N:Nat}(hN:N<=100000):∀ n,n<=N->zbi M N n
 |0,_=>fun _ _ _ _ _ _ _ _ _ _ _ _ _ hr _ _=>hr.elim
 |n+1,hn=>by
  have hW:=zo0 M hN n (by omega);intro Z w cb bb rv sv kv v fns q e below h hr hf hb;have fQ:=hr;rcases hr with ⟨hk,_⟩|⟨hk,_⟩|⟨hk,_⟩|⟨hk,_⟩|⟨hk,u1,u2,d1,d2,k1,rfl,k3,k4⟩|⟨hk,u1,u2,d1,d2,k1,rfl,k3,k4⟩|⟨hk,_⟩|⟨hk,cv,bf,b,ag,nvs,bvs,k1,rfl,k3,k4,k5,k6,k7,k8,k9⟩
  ·exact zd8 hW hn h fQ hf hb (by omega)
  ·exact zd8 hW hn h fQ hf hb (by omega)
  ·exact zd8 hW hn h fQ hf hb (by omega)
  ·exact zd8 hW hn h fQ hf hb (by omega)
  ·exact zkp hN hW hn h hk k1 k3 k4 hf hb
  ·exact zp8 hW hn h hk k1 k3 k4 hf hb
  ·exact znf hW hn h hk fQ hf hb
  ·exact zkq hW hn h hk k1 k3 k4 k5 k6 k7 k8 k9 hf hb
end Go.Proofs.YtgahgkddaljmkaaGreatDoor
namespace Go.Proofs.YtgahgkddaljmkaaGreatDoor
open Tryz
namespace Cp
def zq6:Ins->Prop
 |.choose zao=>zao.length<=5000
 |_=>True
def zq5 (b:Nat × List Ins):Prop:=b.1<=20000/\b.2≠[]/\b.2.length<=1000000000/\∀ i∈b.2,zq6 i
def Ext (q q':Bs):Prop:=(∃ bl,q'.blocks=q.blocks++bl/\∀ b∈bl,zq5 b)/\∃ c,q'.code=q.code++c/\∀ i∈c,zq6 i
theorem Ext.refl(q:Bs):Ext q q:=⟨⟨[],by simp,by simp⟩,[],by simp,by simp⟩
variable {a b:Bs}
theorem Ext.trans{c:Bs}(h:Ext a b)(k:Ext b c):Ext a c:=by
 obtain ⟨⟨l1,e1,g1⟩,c1,d1,i1⟩:=h;obtain ⟨⟨l2,e2,g2⟩,c2,d2,i2⟩:=k;refine ⟨⟨l1++l2,by rw[e2,e1,zzk],fun x hx=>?_⟩,c1++c2,by rw[d2,d1,zzk],fun x hx=>?_⟩
 ·rcases zzi.1 hx with hx|hx
  ·exact g1 x hx
  ·exact g2 x hx
 ·rcases zzi.1 hx with hx|hx
  ·exact i1 x hx
  ·exact i2 x hx
theorem Ext.code{a b:Bs}(h:Ext a b):a.code.length<=b.code.length:=by
 obtain ⟨_,c,d,_⟩:=h;rw[d];simp
theorem Ext.like{a':Bs}(h:Ext a b)(h1:a'.blocks=a.blocks)(h2:a'.code=a.code):Ext a' b:=by
 obtain ⟨⟨l1,e1,g1⟩,c1,d1,i1⟩:=h;exact ⟨⟨l1,by rw[e1,h1],g1⟩,c1,by rw[d1,h2],i1⟩
theorem Ext.zyo{b':Bs}(h:Ext a b)(h1:b'.blocks=b.blocks)(h2:b'.code=b.code):Ext a b':=by
 obtain ⟨⟨l1,e1,g1⟩,c1,d1,i1⟩:=h;exact ⟨⟨l1,by rw[h1,e1],g1⟩,c1,by rw[h2,d1],i1⟩
theorem zcF(q:Bs)(i:Ins)(hi:zq6 i):Ext q (q.push i):=⟨⟨[],by simp[Bs.push],by simp⟩,[i],rfl,by simpa using hi⟩
theorem zcK(q:Bs)(i:Ins)(hi:zq6 i):Ext q (q.write i):=⟨⟨[],by simp[Bs.write],by simp⟩,[i],rfl,by simpa using hi⟩
theorem zs1(fns:List Nm)(q:Bs)(x:Nm):Ext q (q.use fns x):=by
 unfold Bs.use;split
 ·exact zcF _ _ trivial
 ·exact zcF _ _ trivial
theorem zqs(fns:List Nm):∀ (l:List Nm) (q:Bs),Ext q (l.foldl (Bs.use fns) q)
 |[],q=>Ext.refl q
 |x::l,q=>(zs1 fns q x).trans (zqs fns l _)
theorem zfu(fns:List Nm)(q:Bs)(l:List Nm):Ext q (q.zak fns l):=zqs fns _ q
theorem zjd(fns:List Nm)(q:Bs)(l:List Nm):Ext q ((q.zak fns l).drop l.length):=(zfu fns q l).zyo rfl rfl
theorem zmg{sl:List Nm}{wr:Bs->Bs}(h:Ext ⟨b.blocks,sl,[]⟩ (wr ⟨b.blocks,sl,[]⟩))(aH:(wr ⟨b.blocks,sl,[]⟩).code≠[])(hl:(wr ⟨b.blocks,sl,[]⟩).code.length<=1000000000)(hs:sl.length<=20000):Ext b (b.zhD sl wr).1:=by
 obtain ⟨⟨l1,e1,g1⟩,c,d1,i1⟩:=h;refine ⟨⟨l1++[(sl.length,(wr ⟨b.blocks,sl,[]⟩).code)],?_,fun x hx=>?_⟩,[],by simp[Bs.zhD],by simp⟩
 ·simp only[Bs.zhD];rw[e1,zzk]
 ·rcases zzi.1 hx with hx|hx
  ·exact g1 x hx
  ·rw[zze.1 hx];refine ⟨hs,aH,hl,fun i hi=>?_⟩;simp only at hi;rw[d1,zzb]at hi;exact i1 i hi
theorem zqi{wk:Th.Ex->Nat->Bs->Bs}(names:List Nm):∀ (az:List (Nat × List Th.Tok)) (ds:List Th.Ex) (b:Bs) (l:List (Nat × Nat × Nat)),(armsOf wk names az ds b l).2.length<=l.length+az.length
 |[],ds,b,l=>by simp[armsOf]
 |_::_,[],b,l=>by simp[armsOf]
 |a::az,d::ds,b,l=>by
  rw[armsOf];have:=zqi (wk:=wk) names az ds (b.zhD (Th.texts a.2++names).reverse (wk d 0)).1 (l++[(a.1,a.2.length,(b.zhD (Th.texts a.2++names).reverse (wk d 0)).2)]);simp only[zyT,zy0]at this;simp only[zy8];omega
def zh4 (M N n:Nat) (wk:Th.Ex->Nat->Bs->Bs):Prop:=∀ e below q,Dp n e->Dp N e->wt N e<=M->Ext q (wk e below q)/\q.code.length<(wk e below q).code.length
variable {M N:Nat}{e:Th.Ex}
theorem zmG(hM:M<=5000)(hw:wt N e<=M):(M+8)*wt N e<=25040000:=zyR (zAg (show M+8<=5008 by omega) (show wt N e<=5000 by omega)) (by decide)
variable {n:Nat}{wk:Th.Ex->Nat->Bs->Bs}{below:Nat}
theorem zmk(hM:M<=5000)(hx:zh4 M N n wk)(hw:zb8 M N wk){sl:List Nm}(h1:Dp n e)(h2:Dp N e)(h3:wt N e<=M)(hs:sl.length<=20000):Ext b (b.zhD sl (wk e below)).1:=by
 obtain ⟨a1,a2⟩:=hx e below ⟨b.blocks,sl,[]⟩ h1 h2 h3;have a3:=(hw e below ⟨b.blocks,sl,[]⟩ h2 h3).1;have a4:=zmG hM h3;simp only[zzm,zzG]at a2 a3;exact zmg a1 (fun e0=>by rw[e0]at a2;simp at a2) (by omega) hs
theorem zdh(h:Dp N e):e.names.length+1<=wt N e:=by rw[h.wt];omega
theorem zgm(hM:M<=5000)(hx:zh4 M N n wk)(hw:zb8 M N wk)(b:Bs)(h1:Dp n e\/(e.kind=3\/e.kind=4)/\Dp (n+1) e)(h2:Dp N e)(h3:wt N e<=M):Ext b (zal wk (free N) b e).1:=by
 have hh:=zyR (zbg b.zac (free N e)) (zaZ N e);have ev:=zdh h2;unfold zal;by_cases h4:e.kind=4
 ·obtain ⟨_,d,hk⟩:=h2.zea.k4 h4;have EM:=h2.zgZ (k:=d) (by simp[hk]);simp only[h4,if_true,hk];refine zmk hM hx hw ?_ (h2.kid (by simp[hk])) (by omega) (by simp[Th.texts];omega);rcases h1 with h1|⟨_,h1⟩
  ·exact h1.kid (by simp[hk])
  ·exact h1.2 d (by simp[hk])
 ·by_cases zC:e.kind=3
  ·simp only[zC,if_true];have:=h2.zea.ar;exact zmg (sl:=List.replicate e.arity []) (wr:=fun q=>(q.write (.pack e.tag e.arity)).write .enter) ((zcK _ (.pack e.tag e.arity) trivial).trans (zcK _ .enter trivial)) (by simp[Bs.write]) (by simp[Bs.write]) (by simp;omega)
  ·simp only[h4,zC,if_false];rcases h1 with h1|⟨h,_⟩
   ·exact zmk hM hx hw h1 h2 h3 (by simp;omega)
   ·omega
theorem zmi(hM:M<=5000)(hx:zh4 M N n wk)(hw:zb8 M N wk)(fns:List Nm)(b:Bs)(h1:Dp n e\/e.kind<=4/\Dp (n+1) e)(h2:Dp N e)(h3:wt N e<=M):Ext b (zaI wk (free N) fns b e):=by
 unfold zaI;split
 ·exact zs1 fns b e.tok.s
 ·split
  ·exact zcF _ _ trivial
  ·split
   ·exact zcF _ _ trivial
   ·next k2 k1 k3=>
    have fN:=h2.zea.lo;have hc:=zgm hM hx hw b (e:=e) (by
     rcases h1 with h1|⟨h,h1⟩
     ·exact .inl h1
     ·exact .inr ⟨by omega,h1⟩) h2 h3
    exact (hc.trans (zjd fns _ _)).trans (zcF _ _ (by exact trivial))
theorem zeN{M N n:Nat}{wk:Th.Ex->Nat->Bs->Bs}(hM:M<=5000)(hx:zh4 M N n wk)(hw:zb8 M N wk)(fns:List Nm):∀ (l:List Th.Ex) (b:Bs),(∀ x∈l,Dp n x/\Dp N x/\wt N x<=M)->Ext b (l.foldl (zaI wk (free N) fns) b)
 |[],b,_=>Ext.refl b
 |x::l,b,h=>by
  obtain ⟨h1,h2,h3⟩:=h x (by simp);rw[zz2];exact (zmi hM hx hw fns b (.inl h1) h2 h3).trans (zeN hM hx hw fns l _ (fun y hy=>h y (by simp[hy])))
theorem zmj{M N n:Nat}{wk:Th.Ex->Nat->Bs->Bs}(hM:M<=5000)(hx:zh4 M N n wk)(hw:zb8 M N wk):∀ (l:List Th.Ex) (b:Bs) (a:List (List Nm)),(∀ x∈l,Dp n x/\Dp N x/\wt N x<=M)->Ext b (makeAll wk (free N) l b a).1
 |[],b,_,_=>Ext.refl b
 |x::l,b,a,h=>by
  obtain ⟨h1,h2,h3⟩:=h x (by simp);rw[makeAll];exact ((zgm hM hx hw b (.inl h1) h2 h3).trans (zcK _ _ (by exact trivial))).trans (zmj hM hx hw l _ _ (fun y hy=>h y (by simp[hy])))
theorem zmh(fns:List Nm):∀ (l:List (List Nm)) (i:Nat) (b:Bs),Ext b (zbf fns i l b)
 |[],_,b=>Ext.refl b
 |x::l,i,b=>by
  rw[zbf];exact ((zjd fns b x).trans (zcK _ _ (by exact trivial))).trans (zmh fns l (i+1) _)
theorem ziO{M N n:Nat}{wk:Th.Ex->Nat->Bs->Bs}(hM:M<=5000)(hx:zh4 M N n wk)(hw:zb8 M N wk)(names:List Nm)(ev:names.length<=10000):∀ (az:List (Nat × List Th.Tok)) (ds:List Th.Ex) (b:Bs) (l:List (Nat × Nat × Nat)),(∀ a∈az,a.2.length<=5000)->(∀ x∈ds,Dp n x/\Dp N x/\wt N x<=M)->Ext b (armsOf wk names az ds b l).1
 |[],ds,b,l,_,_=>by simp only[armsOf];exact Ext.refl b
 |_::_,[],b,l,_,_=>by simp only[armsOf];exact Ext.refl b
 |a::az,d::ds,b,l,ha,h=>by
  obtain ⟨h1,h2,h3⟩:=h d (by simp);have aU:=ha a (by simp);rw[armsOf];exact (zmk hM hx hw h1 h2 h3 (by simp[Th.texts];omega)).trans (ziO hM hx hw names ev az ds _ _ (fun y hy=>ha y (by simp[hy])) (fun y hy=>h y (by simp[hy])))
theorem znP(hM:M<=5000)(hx:zh4 M N n wk)(hw:zb8 M N wk)(fns:List Nm){ps:List Th.Ex}(b:Bs)(h:∀ x∈ps,Dp n x/\Dp N x/\wt N x<=M):Ext b (zdq wk (free N) fns e ps b):=by
 unfold zdq;split
 ·have h1:=zmj hM hx hw ps { b with zac:=b.zac++Th.texts e.names } [] h;exact (h1.like (a':=b) rfl rfl).trans (zmh fns _ _ _)
 ·exact (zeN hM hx hw fns ps b h).zyo rfl rfl
theorem zsw(h:Dp N e):∀ a∈e.zao,a.2.length<=wt N e:=fun a ha=>by
 have h1:∀ (l:List (Nat × List Th.Tok)),a∈l->a.2.length<=(l.map fun a=>1+a.2.length).sum:=by
  intro l
  induction l with
  |nil=>simp
  |cons x l ih=>
   intro hm;rw[zza,zzd];rcases zzo.1 hm with rfl|hm
   ·omega
   ·have:=ih hm;omega
 have:=h1 e.zao ha;rw[h.wt];omega
theorem zsz(h:Dp N e):e.zao.length<=wt N e:=by
 have h1:∀ (l:List (Nat × List Th.Tok)),l.length<=(l.map fun a=>1+a.2.length).sum:=by
  intro l
  induction l with
  |nil=>simp
  |cons x l ih=>rw[zza,zzd,zy8];omega
 have:=h1 e.zao;rw[h.wt];omega
theorem zjV{n:Nat}:∀ (m:Nat) (e f a:Th.Ex),e.kids=[f,a]->Dp (n+1) e->Dp n (spread (m+1) e).1/\∀ x∈(spread (m+1) e).2,Dp n x
 |0,e,f,a,hk,h=>by
  have h1:=h.2 f (by simp[hk]);have h2:=h.2 a (by simp[hk]);rw[spread,hk];simp only;split
  ·simp[spread,h1,h2]
  ·simp[h1,h2]
 |m+1,e,f,a,hk,h=>by
  have h1:=h.2 f (by simp[hk]);have h2:=h.2 a (by simp[hk]);rw[spread,hk];simp only;split
  ·next hf=>
   obtain ⟨g,b,aG⟩:=h1.zea.k5 (.inl hf);obtain ⟨i1,i2⟩:=zjV m f g b aG h1.succ;refine ⟨i1,fun x hx=>?_⟩;rcases zzi.1 hx with hx|hx
   ·exact i2 x hx
   ·rw[zze.1 hx];exact h2
  ·simp[h1,h2]
theorem zbC{M:Nat}(N:Nat)(fns:List Nm)(hM:M<=5000):∀ n:Nat,zh4 M N n (work (free N) fns n)
 |0=>fun _ _ _ h=>h.elim
 |n+1=>fun e below q hn hd hm=>by
  have ih:=zbC N fns hM n;have hc:=zaK M N fns n;have eE:=hd.zea;have fN:=eE.lo;have gS:=eE.hi;have a7:∀ k∈e.kids,Dp n k/\Dp N k/\wt N k<=M:=fun k hk=>⟨hn.2 k hk,hd.kid hk,by have:=hd.zgZ hk;omega⟩
  have hh:=zyR (zbg q.zac (free N e)) (zaZ N e);by_cases h5:e.kind=5
  ·obtain ⟨f,a,hk⟩:=eE.k5 (.inl h5);rw[work];simp only[h5,if_true];obtain ⟨s1,s2,s3⟩:=zeY (n+1) e hd;obtain ⟨s4,s5⟩:=zjV (n:=n) n e f a hk hn;generalize spread (n+1) e=s at s1 s2 s3 s4 s5 ⊢;obtain ⟨fe,es⟩:=s;simp only at s1 s2 s3 s4 s5 ⊢;have h1:=zeN hM ih hc fns es.reverse q (fun x hx=>⟨s5 x (by simpa using hx),s3 x (by simpa using hx),by have:=zbj (f:=wt N) (x:=x) (l:=es) (by simpa using hx);omega⟩);obtain ⟨i1,i2⟩:=ih fe (below+es.length+1) ((es.reverse.foldl (zaI (work (free N) fns n) (free N) fns) q).push (.zbF es.length)) s4 s2 (by omega);have h2:=h1.trans (zcF _ (.zbF es.length) trivial);have:=h2.code;exact ⟨h2.trans i1,by omega⟩
  ·by_cases h6:e.kind=6
   ·obtain ⟨l,r,hk⟩:=eE.k5 (.inr h6);rw[zh3 fns n below q h6 hk];obtain ⟨l1,l2,l3⟩:=a7 l (by simp[hk]);obtain ⟨r1,r2,r3⟩:=a7 r (by simp[hk]);have ev:=zyR (zbg q.zac (free N r)) (zaZ N r);generalize zai q.zac (free N r)=names at ev ⊢;obtain ⟨i1,i2⟩:=ih r 2 (zbo q names e) r1 r2 r3;have j1:=(hc r 2 (zbo q names e) r2 r3).1;have j2:=zmG hM r3;have bJ:(zbo q names e).code.length=3:=by simp[zbo]
    rw[bJ]at i2 j1;generalize work (free N) fns n r 2 (zbo q names e)=R at i1 i2 j1 ⊢;have h1:Ext q ⟨R.blocks++[(names.length+1,R.code)],q.zac,q.code⟩:=by
     obtain ⟨⟨bl,e1,g1⟩,cc,d1,o1⟩:=i1;refine ⟨⟨(2,[.comp ⟨e.tok.s.toArray⟩,.enter])::bl++[(names.length+1,R.code)],?_,fun x hx=>?_⟩,[],by simp,by simp⟩
     ·simp only;rw[e1];simp[zbo]
     ·rcases zzi.1 hx with hx|hx
      ·rcases zzo.1 hx with rfl|hx
       ·exact ⟨by simp,by simp,by simp,by simp[zq6]⟩
       ·exact g1 x hx
      ·rw[zze.1 hx];refine ⟨by simp only;omega,fun e0=>by simp only at e0;rw[e0]at i2;simp at i2,by simp only;omega,fun i hi=>?_⟩;simp only at hi;rw[d1]at hi;rcases zzi.1 hi with hi|hi
       ·simp[zbo]at hi;rcases hi with rfl|rfl|rfl <;> trivial
       ·exact o1 i hi
    have h2:=(h1.trans (zfu fns _ names)).trans (zcF _ (.wait R.blocks.length) trivial);obtain ⟨k1,k2⟩:=ih l (below+names.length+1) ((Bs.zak fns ⟨R.blocks++[(names.length+1,R.code)],q.zac,q.code⟩ names).push (.wait R.blocks.length)) l1 l2 l3;have:=h2.code;exact ⟨h2.trans k1,by omega⟩
   ·by_cases h9:e.kind=9
    ·obtain ⟨aH,s,ds,hk,rY⟩:=eE.k9 h9;obtain ⟨l1,l2,l3⟩:=a7 s (by simp[hk]);have dj:=hd.wt;rw[hk]at dj;simp at dj;have aU:=zbN (free N) (wt N) (zaZ N) e.zao ds [];have rN:=zbg q.zac (zas (free N) e.zao ds []);simp only[zzm,zzG]at aU;obtain ⟨names,iZ⟩:∃ names,names=zai q.zac (zas (free N) e.zao ds []):=⟨_,rfl⟩;rw[<-iZ]at rN;obtain ⟨ao,mJ⟩:∃ ao,ao=armsOf (work (free N) fns n) names e.zao ds ⟨q.blocks,([]::names).reverse,[]⟩ []:=⟨_,rfl⟩;have ea:=ziO hM ih hc names (by omega) e.zao ds ⟨q.blocks,([]::names).reverse,[]⟩ [] (fun a ha=>by have:=zsw hd a ha;omega) (fun x hx=>a7 x (by simp[hk,hx]));have ec:=(zeH hc names e.zao ds ⟨q.blocks,([]::names).reverse,[]⟩ [] (fun x hx=>(a7 x (by simp[hk,hx])).2)).2.2;rw[<-mJ]at ea ec;rw[zfk fns n below q h9 hk iZ mJ];have h1:Ext q ⟨ao.1.blocks++[(names.length+1,ao.1.code++[.choose ao.2])],q.zac,q.code⟩:=by
      obtain ⟨⟨bl,e1,g1⟩,_⟩:=ea;refine ⟨⟨bl++[(names.length+1,ao.1.code++[.choose ao.2])],?_,fun x hx=>?_⟩,[],by simp,by simp⟩
      ·simp only;rw[e1];simp
      ·rcases zzi.1 hx with hx|hx
       ·exact g1 x hx
       ·rw[zze.1 hx,ec];refine ⟨by simp only;omega,by simp,by simp,fun i hi=>?_⟩;simp only[zzb,zze]at hi;rw[hi];show ao.2.length<=5000;rw[mJ];have:=zqi (wk:=work (free N) fns n) names e.zao ds ⟨q.blocks,([]::names).reverse,[]⟩ [];have:=zsz hd;simp only[zzm,zzG]at *;omega
     have h2:=(h1.trans (zfu fns _ names)).trans (zcF _ (.wait ao.1.blocks.length) trivial);obtain ⟨k1,k2⟩:=ih s (below+names.length+1) ((Bs.zak fns ⟨ao.1.blocks++[(names.length+1,ao.1.code++[.choose ao.2])],q.zac,q.code⟩ names).push (.wait ao.1.blocks.length)) l1 l2 l3;have:=h2.code;exact ⟨h2.trans k1,by omega⟩
    ·by_cases h7:e.kind=7\/e.kind=8
     ·obtain ⟨aH,d,ps,hk,gK⟩:=eE.k7 h7;rw[work];simp only[h5,h6,h9,h7,if_false,if_true];obtain ⟨l1,l2,l3⟩:=a7 d (by simp[hk]);have sQ:∀ x∈ps,Dp n x/\Dp N x/\wt N x<=M:=fun x hx=>a7 x (by simp[hk,hx])
      have sE:∀ b:Bs,Ext b (zkD (work (free N) fns n) (free N) fns e b)/\b.code.length<(zkD (work (free N) fns n) (free N) fns e b).code.length:=fun b=>by
       rw[zei hk];have h1:=znP hM ih hc fns (e:=e) b sQ;obtain ⟨k1,k2⟩:=ih d 0 (zdq (work (free N) fns n) (free N) fns e ps b) l1 l2 l3;have:=h1.code;exact ⟨h1.trans k1,by omega⟩
      split
      ·exact sE q
      ·obtain ⟨g1,g2⟩:=sE ⟨(q.zak fns (zai q.zac (free N e))).blocks,(zai q.zac (free N e)).reverse,[]⟩;have aN:(zkD (work (free N) fns n) (free N) fns e ⟨(q.zak fns (zai q.zac (free N e))).blocks,(zai q.zac (free N e)).reverse,[]⟩).code.length<=1000000000:=by
        rw[zei hk];obtain ⟨a1,a2,a3⟩:=zdU hc fns hk gK ⟨(q.zak fns (zai q.zac (free N e))).blocks,(zai q.zac (free N e)).reverse,[]⟩ hd hm;have d1:=(hc d 0 (zdq (work (free N) fns n) (free N) fns e ps ⟨(q.zak fns (zai q.zac (free N e))).blocks,(zai q.zac (free N e)).reverse,[]⟩) l2 l3).1;have p1:=zmG hM l3;have ev:=zdh hd;have p2:(M+8)*e.names.length<=5008*5000:=zAg (by omega) (by omega);simp only[zzm,zzG]at a3;omega
       have hA:=zmg g1 (fun e0=>by rw[e0]at g2;simp at g2) aN (by simp;omega);have h2:=((zfu fns q (zai q.zac (free N e))).trans hA);have h3:=h2.code;refine ⟨(h2.trans (zcK _ _ (by exact trivial))).trans (zcK _ _ (by exact trivial)),?_⟩;simp only[Bs.ends,Bs.write,zyT,zy0];omega
     ·rw[work];simp only[h5,h6,h9,h7,if_false];have h1:=zmi hM ih hc fns q (e:=e) (.inr ⟨by omega,hn⟩) hd hm;have:=h1.code;refine ⟨(h1.trans (zcK _ _ (by exact trivial))).trans (zcK _ _ (by exact trivial)),?_⟩;simp only[Bs.ends,Bs.write,zyT,zy0];omega
end Cp
end Go.Proofs.YtgahgkddaljmkaaGreatDoor
namespace Go.Proofs.YtgahgkddaljmkaaGreatDoor
open Tryz
open Go.RowKit Go.Shelf
variable {w:World}{size n g cap:Nat}{xs:List Value}
theorem ztJ{e:TypeId}(h:w.ownsRow 0 e size (.slice (some ⟨g,0,none⟩) n cap) n xs)(j:Nat)(u:Value)(_hj:j<n*size):(w.setCell ⟨g,j,none⟩ u).ownsRow 0 e size (.slice (some ⟨g,0,none⟩) n cap) n (xs.set j u):=by
 obtain ⟨h1,h2⟩:=h;refine ⟨by rw[zy6];exact h1,?_⟩;rcases h2 with ⟨h2,_⟩|⟨g',dU,cur,hv,hg,hb,r1,r2,r3,r4⟩
 ·cases h2
 ·cases hv;refine .inr ⟨g,cap,cur.set! j u,rfl,hg,?_,r1,r2,by simp[r3],?_⟩
  ·have hl:g<w.heap.size:=(zyY.1 hb).1;simp[World.setCell,Array.getElem?_modify,hb]
  ·rw[<-r4];simp[List.take_set]
theorem zh6:∀ (l:List (Nat × List Ins)) (vs:List Value) (i:Nat) (b:Nat × List Ins) (v:Value),vs.length=l.length->((zaz l vs).set (i*2) (.int .i64 b.1)).set (i*2+1) v=zaz (l.set i b) (vs.set i v)
 |[],[],_,_,_,_=>by simp[zaz]
 |x::l,y::vs,0,b,v,_=>by simp[zaz]
 |x::l,y::vs,i+1,b,v,h=>by
  simp only[zaz,zyW];rw[show (i+1)*2=i*2+2 by omega,show i*2+2+1=i*2+1+2 by omega];rw[zy7,zy7,zzb,zyW,zyW,zyW,zyW,zh6 l vs i b v (by simpa using h)];rfl
 |[],_::_,_,_,_,h=>by simp at h
 |_::_,[],_,_,_,h=>by simp at h
variable {Z:Nat->Prop}{cb bb i:Nat}{sv kv:Value}{fns:List Cp.Nm}{q:Cp.Bs}
theorem CS.put{W:World}{m:Nat}(h:BS Z w cb bb (.slice (some ⟨g,0,none⟩) q.blocks.length cap) sv kv fns q)(f:Fr (fun _=>False) w W)(hi:i<q.blocks.length):
  CS (fun k=>Z k\/kv.ownBlock=some k) ((W.setCell ⟨g,i*2,none⟩ (.int .i64 m)).setCell ⟨g,i*2+1,none⟩ kv) cb (.slice (some ⟨g,0,none⟩) q.blocks.length cap) fns (q.blocks.set i (m,q.code)):=by
 have hW:=h.fr0 f;obtain ⟨fv,bH,bT⟩:=hW.zkt;obtain ⟨cP,dd,cg,jc⟩:=hW.zkI;obtain ⟨vs,cK,aG⟩:=hW.znV;have so:g≠cb:=fun e=>hW.rc.1 (by rw[e];rfl)
 have EH:kv.ownBlock≠some g:=hW.rk g rfl;have nS:=hW.klt;have f2:Fr (fun k=>k=g) W ((W.setCell ⟨g,i*2,none⟩ (.int .i64 m)).setCell ⟨g,i*2+1,none⟩ kv):=((Fr.refl (fun k=>k=g) _).set _ _ (.inl rfl)).set _ _ (.inl rfl);have hz:∀ k,k<W.heap.size->Z k->¬ k=g:=fun k _ hk e=>hW.zk k hk (.inr (.inr (.inl (by rw[e];rfl))))
 have jF:zir (fun k=>Z k\/kv.ownBlock=some k) ((W.setCell ⟨g,i*2,none⟩ (.int .i64 m)).setCell ⟨g,i*2+1,none⟩ kv) kv q.code:=
  ⟨vs,⟨f2.gb cK (fun k hk e=>EH (by rw[<-e];exact hk)),fun k hk=>.inr hk⟩,aG.frz f2 hz (fun _ _ x=>.inl x)⟩
 refine ⟨⟨fv,Fr.blk bH f2 (fun e=>so e.symm),bT.frz f2 hz (fun _ _ x=>.inl x)⟩,⟨cP.set i kv,by simp[dd],?_,?_⟩,?_,?_,?_⟩
 ·rw[<-zh6 q.blocks cP i (m,q.code) kv dd,zy6];exact ztJ (ztJ cg (i*2) _ (by omega)) (i*2+1) _ (by omega)
 ·intro j b cv hj hv;rw[zyV]at hj hv;by_cases ki:i=j
  ·subst ki;rw[if_pos rfl,if_pos hi]at hj;rw[if_pos rfl,if_pos (by omega)]at hv;cases hj;cases hv;exact jF
  ·rw[if_neg ki]at hj hv;exact (jc j b cv hj hv).frz f2 hz (fun _ _ x=>.inl x)
 ·rintro k (hk|hk)
  ·exact zyS (hW.zlt k hk) f2.size
  ·exact zyS (nS k hk) f2.size
 ·rintro k (hk|hk)
  ·exact ⟨fun e=>hW.zk k hk (.inl e),fun e=>hW.zk k hk (.inr (.inr (.inl e)))⟩
  ·exact ⟨fun e=>hW.kc.1 (e ▸ hk),fun e=>hW.rk k e hk⟩
 ·exact hW.rc.1
theorem madeB(n:Nat):madeCells (Value.cells (.agg #[.int .i64 0,.slice none 0 0])) (n*2)=(zaz (List.replicate n (0,[])) (List.replicate n (.slice none 0 0))).toArray:=by
 have hl:∀ n:Nat,(zaz (List.replicate n (0,([]:List Ins))) (List.replicate n (.slice none 0 0))).length=2*n/\∀ i,i<n->(zaz (List.replicate n (0,([]:List Ins))) (List.replicate n (.slice none 0 0)))[2*i]?=some (.int .i64 0)/\(zaz (List.replicate n (0,([]:List Ins))) (List.replicate n (.slice none 0 0)))[2*i+1]?=some (.slice none 0 0):=by
  intro n
  induction n with
  |zero=>simp[zaz]
  |succ n ih=>
   simp only[zz4,zaz];refine ⟨by simp[ih.1];omega,fun i hi=>?_⟩;cases i with
   |zero=>simp
   |succ i=>
    rw[show 2*(i+1)=2*i+1+1 by omega];simp only[zy7,zzb,zzT];exact ih.2 i (by omega)
 obtain ⟨h1,h2⟩:=hl n;apply Array.ext
 ·simp only[zzr,h1];simp[madeCells,Value.cells];omega
 ·intro i GB lg;simp only[zzr,h1]at lg;have e1:=h2 (i/2) (by omega);rcases Nat.mod_two_eq_zero_or_one i with hm|hm
  ·have e2:=e1.1;rw[show 2*(i/2)=i by omega]at e2;have:(zaz (List.replicate n (0,([]:List Ins))) (List.replicate n (.slice none 0 0))).toArray[i]'(by simp[h1];omega)=.int .i64 0:=by
    rw[List.getElem_toArray];exact (zyL.1 e2).2
   rw[this];simp[madeCells,Value.cells,hm]
  ·have e2:=e1.2;rw[show 2*(i/2)+1=i by omega]at e2;have:(zaz (List.replicate n (0,([]:List Ins))) (List.replicate n (.slice none 0 0))).toArray[i]'(by simp[h1];omega)=.slice none 0 0:=by
    rw[List.getElem_toArray];exact (zyL.1 e2).2
   rw[this];simp[madeCells,Value.cells,hm]
theorem zty(hn:n<=1000000)(W:World):(Instr.makeSlice 64 (.int .i64 (n:Int)) (.int .i64 (n:Int))).run prog W=.ok (.slice (some ⟨W.heap.size,0,none⟩) n n) (W.alloc (.cells (zaz (List.replicate n (0,[])) (List.replicate n (.slice none 0 0))).toArray 96)):=by
 obtain ⟨i,hi,he⟩:=zyX.1 znT;simp only[zzL]at he;obtain ⟨h1,h2,h3⟩:=he;have:=run_make (P:=prog) W 64 96 i (.agg #[.int .i64 0,.slice none 0 0]) underlying64 hi h1 .i64 .i64 n n (by omega) (by omega) (by rw[h3];omega) (by omega);rw[this,h2,zy2,madeB]
end Go.Proofs.YtgahgkddaljmkaaGreatDoor
namespace Go.Proofs.YtgahgkddaljmkaaGreatDoor
open Tryz
open Go.RowKit Go.Shelf
attribute [local go_sem ↓] Go.wp_at_zero Go.wp_at_succ
structure PL (Z1:Nat->Prop) (w1 wr:World) (cb:Nat) (bh:Value) (fns:List Cp.Nm) (bl:List (Nat × List Ins)) (Zi:Nat->Prop) (gX:Value):Prop where
 z:∀ j,j<w1.heap.size->(Zi j↔Z1 j)
 c:CS Zi wr cb gX fns bl
 f:Fr (fun k=>k=cb\/bh.ownBlock=some k) w1 wr
 n:New w1 bh gX
variable {Z1 Zi:Nat->Prop}{w1 wr:World}{cb n size:Nat}{bh gX v:Value}{fns:List Cp.Nm}{bl:List (Nat × List Ins)}{xs:List Value}
theorem PL.row{t:TypeId}{wh:List (Nat × List Ins)}(h:PL Z1 w1 wr cb bh fns bl Zi gX)(h1:CS Z1 w1 cb bh fns wh)(hr:Row Z1 w1 t size v n xs):Row Zi wr t size v n xs:=
 hr.frz h.f (fun k _ hz e=>by rcases e with e|e;exact (h1.zk k hz).1 e;exact (h1.zk k hz).2 e) (fun k hk hz=>(h.z k hk).2 hz)
variable {e:Th.Ex}
theorem PL.rep{wh:List (Nat × List Ins)}(h:PL Z1 w1 wr cb bh fns bl Zi gX)(h1:CS Z1 w1 cb bh fns wh)(hr:Rep Z1 w1 n v e):Rep Zi wr n v e:=
 hr.frz h.f (fun k _ hz e=>by rcases e with e|e;exact (h1.zk k hz).1 e;exact (h1.zk k hz).2 e) (fun k hk hz=>(h.z k hk).2 hz)
theorem PL.drew{Z1 Zi:Nat->Prop}{w1 wr:World}{cb:Nat}{bh gX:Value}{fns:List Cp.Nm}{bl:List (Nat × List Ins)}(h:PL Z1 w1 wr cb bh fns bl Zi gX):PL Z1 w1 wr.drew cb bh fns bl Zi gX:=
 ⟨h.z,h.c.fr0 (Fr.refl _ _).drew,h.f.drew,h.n⟩
variable {bb i g cap:Nat}{sv:Value}{q:Cp.Bs}
theorem PL.next{Z':Nat->Prop}{w2 w3 w4:World}{m:Nat}{sv' bG:Value}(h:PL Z1 w1 wr cb bh fns bl Zi gX)(f2:Fr (fun _=>False) wr w2)(bA:∀ k,sv.ownBlock=some k->wr.heap.size<=k)(z3:∀ k,k<w2.heap.size->(Z' k↔Zi k))(b3:BS Z' w3 cb bb (.slice (some ⟨g,0,none⟩) q.blocks.length cap) sv' bG fns q)(f3:Fr (fun k=>k=cb\/gX.ownBlock=some k\/sv.ownBlock=some k) w2 w3)(n3:New w2 gX (.slice (some ⟨g,0,none⟩) q.blocks.length cap))(k3:∀ k,bG.ownBlock=some k->w2.heap.size<=k)(f4:Fr (fun _=>False) w3 w4)(hi:i<q.blocks.length):
  PL Z1 w1 ((w4.setCell ⟨g,i*2,none⟩ (.int .i64 m)).setCell ⟨g,i*2+1,none⟩ bG) cb bh fns (q.blocks.set i (m,q.code)) (fun k=>Z' k\/bG.ownBlock=some k) (.slice (some ⟨g,0,none⟩) q.blocks.length cap):=by
 have s1:=h.f.size;have s2:=f2.size;have s3:=f3.size;have s4:=f4.size;have hn:New w1 bh (.slice (some ⟨g,0,none⟩) q.blocks.length cap):=h.n.trans (New.trans (New.refl wr gX) n3 s2) s1;refine ⟨fun j hj=>?_,CS.put b3 f4 hi,?_,hn⟩
 ·have:=z3 j (by omega);have h2:=h.z j hj;constructor
  ·rintro (e|e)
   ·exact h2.1 (this.1 e)
   ·have:=k3 j e;omega
  ·exact fun e=>.inl (this.2 (h2.2 e))
 ·have hg:(g=cb\/bh.ownBlock=some g)\/w1.heap.size<=g:=by
   rcases hn g rfl with e|e
   ·exact .inl (.inr e)
   ·exact .inr e
  refine Fr.set (Fr.set ?_ _ _ hg) _ _ hg;refine ⟨f4.os.trans (f3.os.trans (f2.os.trans h.f.os)),f4.tape.trans (f3.tape.trans (f2.tape.trans h.f.tape)),f4.output.trans (f3.output.trans (f2.output.trans h.f.output)),by omega,fun j hj hn=>?_⟩;have e3:¬ (j=cb\/gX.ownBlock=some j\/sv.ownBlock=some j):=by
   rintro (e|e|e)
   ·exact hn (.inl e)
   ·rcases h.n j e with e|e
    ·exact hn (.inr e)
    ·omega
   ·have:=bA j e;omega
  rw[f4.block j (by omega) (by simp),f3.block j (by omega) e3,f2.block j (by omega) (by simp),h.f.block j hj hn]
theorem zee(n:Nat):(zaz (List.replicate n (0,([]:List Ins))) (List.replicate n (.slice none 0 0))).length=n*2:=by
 induction n with
 |zero=>rfl
 |succ n ih=>simp only[zz4,zaz,zyT,ih];simp;omega
variable {w:World}
theorem CS.start{S:Nat->Prop}{W1:World}{fv:Value}(hn:n<=1000000)(bZ:fns.length=n)(F1:Fr (fun _=>False) w w1)(ho:w1.ownsRow (w.heap.size+1) 9 1 fv n (strCells fns))(eG:W1=(w1.alloc (.cells #[fv,.slice (some ⟨w1.heap.size+1,0,none⟩) n n] 86)).alloc (.cells (zaz (List.replicate n (0,[])) (List.replicate n (.slice none 0 0))).toArray 96)):
  CS (fun k=>(S k/\k<w.heap.size)\/fv.ownBlock=some k) W1 w1.heap.size (.slice (some ⟨w1.heap.size+1,0,none⟩) n n) fns (List.replicate n (0,[]))/\Fr (fun _=>False) w1 W1/\W1.heap.size=w1.heap.size+2:=by
 have hs:=F1.size;have fA:Fr (fun _=>False) w1 W1:=by rw[eG];exact ((Fr.refl _ _).alloc _).alloc _
 have mI:W1.heap.size=w1.heap.size+2:=by rw[eG,World.size_alloc,World.size_alloc]
 have nL:Blk W1 w1.heap.size [fv,.slice (some ⟨w1.heap.size+1,0,none⟩) n n] 86:=by rw[eG];exact Blk.alloc (Blk.new w1 [fv,.slice (some ⟨w1.heap.size+1,0,none⟩) n n] 86) _
 have E5:Blk W1 (w1.heap.size+1) (zaz (List.replicate n (0,[])) (List.replicate n (.slice none 0 0))) 96:=by
  have:=Blk.new (w1.alloc (.cells #[fv,.slice (some ⟨w1.heap.size+1,0,none⟩) n n] 86)) (zaz (List.replicate n (0,[])) (List.replicate n (.slice none 0 0))) 96;rw[World.size_alloc]at this;rw[eG];exact this
 have r9:∀ k,fv.ownBlock=some k->k<w1.heap.size:=fun k hk=>(ho.lt k hk).2
 refine ⟨⟨⟨fv,nL,?_⟩,⟨List.replicate n (.slice none 0 0),by simp,⟨by simp[zee],.inr ⟨w1.heap.size+1,n,(zaz (List.replicate n (0,[])) (List.replicate n (.slice none 0 0))).toArray,by simp,zy5 _,E5,by simp,?_,by simp[zee],?_⟩⟩,?_⟩,?_,?_,?_⟩,fA,mI⟩
 ·rw[bZ];exact ⟨zhO (za0 ho (zy5 _)) fA (by simp),fun k hk=>.inr hk⟩
 ·simp[maxLen];omega
 ·rw[zy9 (by simp[zee])]
 ·intro i b cv hb iW;have e1:=zzQ (zy1 hb);have e2:=zzQ (zy1 iW);rw[e1,e2];exact ⟨[],⟨World.ownsRow_nil _ _ _ _,by simp[Value.ownBlock]⟩,rfl,by simp⟩
 ·rintro k (⟨_,hk⟩|hk)
  ·omega
  ·have:=r9 k hk;omega
 ·rintro k (⟨_,hk⟩|hk)
  ·exact ⟨by omega,by simp only[Value.ownBlock,ne_eq,zyP];omega⟩
  ·have:=r9 k hk;exact ⟨by omega,by simp only[Value.ownBlock,ne_eq,zyP];omega⟩
 ·simp[Value.ownBlock]
variable {M N:Nat}{pv:Value}
theorem znB(hW:zbi M N N){S:Nat->Prop}{l:List Th.zbr}{nvs bvs:List Value}(h1:nvs.length=l.length)(h2:bvs.length=l.length)(af:Row S w 93 4 pv l.length (zaR l nvs bvs))(jY:zdv S w N l nvs bvs)(fj:fns=Th.zaq l)(cL:[109,97,105,110]∈fns)(aJ:∀ f∈l,f.params.length<=5000/\∀ bl:List (Nat × List Ins),bl.length+8*Cp.wt N f.e<=1000000->Fit M N fns ⟨bl,(Th.texts f.params).reverse,[]⟩ f.e)(aX:∀ f∈l,∀ q:Cp.Bs,(Cp.work (Cp.free N) fns N f.e 0 q).blocks.length<=q.blocks.length+8*Cp.wt N f.e/\q.blocks.length<=(Cp.work (Cp.free N) fns N f.e 0 q).blocks.length)(dh:l.length+(l.map fun f=>8*Cp.wt N f.e).sum<=1000000):
  Calls prog 35 #[pv] w fun e w'=>∃ Z cb rv,e=.returned (.agg #[rv,.int .i64 l.length,.int .i64 (fns.idxOf [109,97,105,110]:Nat)])/\CS Z w' cb rv fns (Cp.program N l)/\Fr (fun _=>False) w w':=by
 have mc:∀ (fn:Fn) (first cap:Array Value) (w:World),(Instr.makeFunc fn first cap).run prog w=.ok (.func fn first cap) w:=fun _ _ _ _=>rfl
 have bZ:fns.length=l.length:=by rw[fj];simp[Th.zaq]
 have bp:0<l.length:=by have:=List.length_pos_of_mem cL;omega
 obtain ⟨g,cap,rfl⟩:∃ g cap,pv=.slice (some ⟨g,0,none⟩) l.length cap:=by
  rcases zan af with rfl|⟨g,cap,rfl⟩
  ·exfalso;rcases af.1.2 with ⟨_,h0⟩|⟨_,_,_,h0,_⟩
   ·omega
   ·cases h0
  ·exact ⟨g,cap,rfl⟩
 have bR:∀ (i:Nat) (nv bv:Value),nvs[i]?=some nv->bvs[i]?=some bv->nv.oneCell'=true/\bv.oneCell'=true:=by
  intro i nv bv hn hb;obtain ⟨x,hx⟩:∃ x,l[i]?=some x:=⟨_,zyM (by have:=(zyL.1 hn).1;omega)⟩;obtain ⟨r1,r2⟩:=jY i x nv bv hx hn hb;obtain ⟨a,k,c,rfl⟩:=zae r1;obtain ⟨t,x,rfl⟩:=zah r2;exact ⟨rfl,rfl⟩
 have f0:Fr (fun _=>False) w (w.alloc (.cells #[.slice none 0 0,.int .i64 0,.int .i64 0] 66)):=(Fr.refl _ _).alloc _;have CN:=zab (zdS (Row.frc af f0 (by simp)) h1 h2 bR (by omega));have HM:=zty (n:=l.length) (by omega);have dS:=zab (Blk.new w [.slice none 0 0,.int .i64 0,.int .i64 0] 66);have F0:=zab f0;have HR:=zab af;have HL:=zab jY;have vo:=zab (And.intro h1 (And.intro h2 (And.intro dh aJ)));have HC:=zab aX;have HW:=zab hW;have HF:=zab (And.intro fj cL);clear hW af jY h1 h2 fj cL aJ aX f0 bR;go_enter func35,ntmps35
 go_wp2_with fail
 refine CN.o.mono ?_;rintro e w1 ⟨v1,rfl,ja,b1⟩;obtain ⟨np,nn,nc,rfl⟩:=zaF ja;obtain ⟨fj,cL⟩:=HF.o;have iP:(w.alloc (.cells #[.slice none 0 0,.int .i64 0,.int .i64 0] 66)).heap.size=w.heap.size+1:=World.size_alloc _ _;have rQ:=b1.size;have F1:Fr (fun _=>False) w w1:=F0.o.trans (Fr.below b1);obtain ⟨W1,eG⟩:∃ W1,W1=(w1.alloc (.cells #[.slice np nn nc,.slice (some ⟨w1.heap.size+1,0,none⟩) l.length l.length] 86)).alloc (.cells (zaz (List.replicate l.length (0,[])) (List.replicate l.length (.slice none 0 0))).toArray 96):=⟨_,rfl⟩;rw[iP]at ja;obtain ⟨Z1,jU⟩:∃ Z1:Nat->Prop,Z1=fun k=>(S k/\k<w.heap.size)\/(Value.slice np nn nc).ownBlock=some k:=⟨_,rfl⟩
 obtain ⟨zG,fA,mI⟩:=CS.start (S:=S) (n:=l.length) (fns:=fns) (by omega) bZ F1 (by rw[fj];exact ja) eG;rw[<-jU]at zG;have lR:=zab zG;clear CN;go_wp2_with fail
 rw[<-eG]
 go_loopg [19] l.length (fun gk iv wr=>∃ (i:Nat) (Zi:Nat->Prop) (gX:Value) (bl:List (Nat × List Ins)),iv=.int .i64 i/\i+gk=l.length/\PL Z1 W1 wr w1.heap.size (.slice (some ⟨w1.heap.size+1,0,none⟩) l.length l.length) fns bl Zi gX /\
  Cp.lines (Cp.free N) fns N i (l.drop i) bl=Cp.program N l/\l.length<=bl.length/\bl.length+((l.drop i).map fun f=>8*Cp.wt N f.e).sum<=1000000)
 case atStart=>
  exact ⟨0,Z1,_,List.replicate l.length (0,[]),rfl,by omega,⟨fun _ _=>zAz,lR.o,Fr.refl _ _,New.refl _ _⟩,by rw[zzY,fj];rfl,by simp,by simpa using dh⟩
 case round=>
  obtain ⟨i,Zi,gX,bl,rfl,hi,hP,hE,cV,hB⟩:=hrel;have jJ:∀ {t:TypeId} {size n:Nat} {v:Value} {xs:List Value},Row S w t size v n xs->Row Zi wr t size v n xs:=fun hr=>hP.row lR.o (hr.frz (F1.trans fA) (by simp) (fun k hk hz=>by rw[jU];exact .inl ⟨hz,hk⟩))
  have jn:∀ {n:Nat} {v:Value} {e:Th.Ex},Rep S w n v e->Rep Zi wr n v e:=fun hr=>hP.rep lR.o (hr.frz (F1.trans fA) (by simp) (fun k hk hz=>by rw[jU];exact .inl ⟨hz,hk⟩))
  have af:=jJ HR.o;have fX:=(af.1.lt g rfl).2;by_cases aj:i<l.length
  ·obtain ⟨x,hx⟩:∃ x,l[i]?=some x:=⟨l[i],zyM aj⟩;have AY:=zy1 hx;obtain ⟨nv,ay⟩:∃ nv,nvs[i]?=some nv:=⟨_,zyM (by rw[vo.o.1];exact aj)⟩;obtain ⟨bv,cC⟩:∃ bv,bvs[i]?=some bv:=⟨_,zyM (by rw[vo.o.2.1];exact aj)⟩;obtain ⟨r1,r2⟩:=HL.o i x nv bv hx ay cC;have rH:=jJ r1;have rJ:=jn r2;obtain ⟨xa,xk,xc,rfl⟩:=zae r1;obtain ⟨yt,yx,rfl⟩:=zah r2;have hc:=zcm l nvs bvs i x _ _ hx ay cC;have y0:=(af.1.cellAt (i*4) (by omega)).trans hc.1;have y1:=(af.1.cellAt (i*4+1) (by omega)).trans hc.2.1;have y2:=(af.1.cellAt (i*4+2) (by omega)).trans hc.2.2.1;have y3:=(af.1.cellAt (i*4+3) (by omega)).trans hc.2.2.2;have dt:(0:Int)<=(i:Int):=by omega
   have br:(i:Int)<(l.length:Int):=by omega
   obtain ⟨gK,Al⟩:=vo.o.2.2.2 x AY;have hD:l.drop i=x::l.drop (i+1):=by rw[zzs aj];rw[zyM aj]at hx;cases hx;rfl
   rw[hD,zza,zzd]at hB;have hF:=Al bl (by omega);obtain ⟨sl,aK⟩:∃ sl:List Cp.Nm,sl=(Th.texts x.params).reverse:=⟨_,rfl⟩;rw[<-aK]at hF;obtain ⟨q,hq⟩:∃ q,q=Cp.work (Cp.free N) fns N x.e 0 ⟨bl,sl,[]⟩:=⟨_,rfl⟩;obtain ⟨bH,bT⟩:=HC.o x AY ⟨bl,sl,[]⟩;rw[<-hq]at bH bT;simp only at bH bT;have gO:Cp.lines (Cp.free N) fns N (i+1) (l.drop (i+1)) (q.blocks.set i (sl.length,q.code))=Cp.program N l:=by
    rw[<-hE,hD,Cp.lines,hq,aK]
   have f1:Fr (fun _=>False) wr (wr.alloc (.cells #[.string ⟨x.name.s.toArray⟩,.int .i64 x.name.at_,.slice xa xk xc,.iface yt yx] 93)):=(Fr.refl _ _).alloc _;have hX:=Blk.new wr [.string ⟨x.name.s.toArray⟩,.int .i64 x.name.at_,.slice xa xk xc,.iface yt yx] 93;have CT:=zab (zd1 (Row.frc rH f1 (by simp)) (by omega));have HX:=zab hX;have Bq:=zab f1;have HP:=zab hP;have fU:=zab (And.intro gO (And.intro bH (And.intro bT hB)));have HQ:=zab (And.intro hq aK);have qq:=zab (And.intro hF rJ);clear hP hE hB af rH rJ hc hF hq aK gO bH bT hX hD Al jJ jn f1 r1 r2;go_wp2_with fail
   refine CT.o.mono ?_;rintro r w2 ⟨tv,rfl,hT,f2⟩;obtain ⟨tp,tn,tc,rfl⟩:=zae hT;have f3:Fr (fun _=>False) w2 (w2.alloc (.cells #[.slice tp tn tc] 38)):=(Fr.refl _ _).alloc _;have CF:=zab (zlp (Blk.new w2 [.slice tp tn tc] 38) (Row.frc hT f3 (by simp)) (by rw[Cp.zcs];omega));have F3:=zab ((Bq.o.trans f2).trans f3);have Bt:=zab (f2.trans f3);clear hT f2 f3 CT y0 y1 y2 y3;go_wp2_with fail
   refine CF.o.mono ?_;rintro r w4 ⟨sv,rfl,hS,f4⟩;obtain ⟨sp,sn,sc,rfl⟩:=zae hS;have uy:=F3.o.trans f4;have hP:=HP.o;have bK:∀ k,(Value.slice sp sn sc).ownBlock=some k->wr.heap.size<=k:=fun k hk=>zyR F3.o.size (hS.2 k hk)
   obtain ⟨hq,aK⟩:=HQ.o;obtain ⟨hF,rJ⟩:=qq.o;have wZ:=hS;rw[<-aK]at wZ;have CB:=zab (znu (lb:=#[.pointer (some ⟨wr.heap.size,0,none⟩)]) (q:=q) zrp (hP.c.fr0 uy) (za0 wZ.1 (zy5 _)) (fun k hk=>⟨by have:=hP.c.clt;have:=bK k hk;omega,fun e=>by have:=hP.c.rlt k e;have:=bK k hk;omega,fun e=>by have:=hP.c.zlt k e;have:=bK k hk;omega⟩)
    (fun W bb bQ hb=>by rw[hq];exact zn8 HW.o (Fr.blk (Fr.blk (Fr.blk HX.o Bt.o (by simp)) f4 (by simp)) bQ (by simp)) hb (rJ.fr0 (uy.trans bQ)) hF))
   have F4:=zab uy;have qH:=zab bK;clear hS wZ hP f4 uy bK hq aK hF rJ CF;go_wp2_with fail
   refine CB.o.mono ?_;rintro r w5 ⟨Z',bb,aO,sv',bG,rfl,z5,b5,f5,n5,k5⟩;obtain ⟨gO,bH,bT,hB⟩:=fU.o;obtain ⟨g5,mH,rfl⟩:∃ g5 mH,aO=.slice (some ⟨g5,0,none⟩) q.blocks.length mH:=by
    obtain ⟨cP,_,ho,_⟩:=b5.zkI;rcases ho.2 with ⟨_,h0⟩|⟨g5,mH,cur,h0,_⟩
    ·omega
    ·exact ⟨g5,mH,h0⟩
   obtain ⟨kp,kn,kc,rfl⟩:∃ a b c,bG=.slice a b c:=by obtain ⟨vs,h0,_⟩:=b5.znV;exact zaF h0
   have EC:i<q.blocks.length:=by omega
   have f6:Fr (fun _=>False) w5 (w5.alloc (.cells #[.int .i64 sl.length,.slice kp kn kc] 96)):=(Fr.refl _ _).alloc _;have b6:=b5.fr0 f6;obtain ⟨fv,nL,_⟩:=b6.zkt;have d1:=Blk.cell nL 1;simp at d1;obtain ⟨cP,iW,fS,_⟩:=b6.zkI;have oS:(zaz q.blocks cP).length=q.blocks.length*2:=fS.1;have z0:=fS.frozenAt (i*2);have z1:=fS.frozenAt (i*2+1);obtain ⟨o0,zU⟩:∃ o0,(zaz q.blocks cP)[i*2]?=some o0:=⟨_,zyM (by omega)⟩;obtain ⟨o1,zV⟩:∃ o1,(zaz q.blocks cP)[i*2+1]?=some o1:=⟨_,zyM (by omega)⟩;have e0:=(fS.cellAt (i*2) (by omega)).trans zU;have e1:=(fS.cellAt (i*2+1) (by omega)).trans zV;have Ew:=(fS.lt g5 rfl).2;have HN:=zab (PL.next (m:=sl.length) HP.o F4.o qH.o z5 b5 f5 n5 k5 f6 EC);have HB:=zab (And.intro bH (And.intro bT (And.intro hB gO)));have sR:(i:Int)<(q.blocks.length:Int):=by omega
   clear b5 b6 f5 n5 k5 z5 f6 nL CB bH bT hB gO fS iW zU zV oS;go_wp2_with fail
   go_region
   go_wp2_with fail
   go_roundg (l.length-(i+1))
   case measure=>omega
   case rel=>
    obtain ⟨bH,bT,hB,gO⟩:=HB.o;refine ⟨i+1,_,_,_,by go_num,by omega,HN.o.drew,gO,by rw[zy6];omega,by rw[zy6];omega⟩
  ·have br:i=l.length:=by omega
   have x8:w.heap.size+1<=w1.heap.size:=by rw[iP]at rQ;exact rQ
   rw[br,List.drop_length,Cp.lines]at hE;subst hE;obtain ⟨fv,nL,bI⟩:=hP.c.zkt;obtain ⟨fp,fm,fc,rfl⟩:=zae bI;have CI:=zab (znS (w:=wr.drew) (Row.frc bI (Fr.refl (fun _=>False) wr).drew (by simp)) (by omega) cL);have hR:Blk wr w.heap.size [.slice none 0 0,.int .i64 0,.int .i64 0] 66:=by
    refine Fr.blk (Fr.blk (Fr.blk dS.o (K:=fun _=>False) (Fr.below b1) (by simp)) fA (by simp)) hP.f ?_;rintro (e|e)
    ·omega
    ·simp only[Value.ownBlock,zyP]at e;omega
   have hF:Fr (fun _=>False) w wr:=by
    have:=(F1.trans fA);refine ⟨hP.f.os.trans this.os,hP.f.tape.trans this.tape,hP.f.output.trans this.output,zyR this.size hP.f.size,fun k hk _=>(hP.f.block k (zyS hk this.size) ?_).trans (this.block k hk (by simp))⟩;rintro (e|e)
    ·have:=F1.size;omega
    ·simp only[Value.ownBlock,zyP]at e;have:=F1.size;omega
   have q0:=Blk.cell nL 0;have q1:=Blk.cell nL 1;have r0:=Blk.cell hR 0;have r1:=Blk.cell hR 1;have r2:=Blk.cell hR 2;have z0:=Blk.frozen hR 0;have z1:=Blk.frozen hR 1;have z2:=Blk.frozen hR 2;simp at q0 q1 r0 r1 r2;obtain ⟨rp,rn,rc,rfl⟩:∃ a b c,gX=.slice a b c:=by obtain ⟨cP,_,h0,_⟩:=hP.c.zkI;exact zaF h0
   have ui:=zab hR;have ub:=zab hF;have HP:=zab hP;have eE:w1.heap.size≠w.heap.size:=by have:=F1.size;omega
   have Ck:Hid (∀ k,Zi k\/k=w1.heap.size\/(Value.slice rp rn rc).ownBlock=some k->¬ k=w.heap.size):=zab (by
    rintro k (e|e|e) rfl
    ·have e2:=(hP.z w.heap.size (by omega)).1 e;rw[jU]at e2;rcases e2 with ⟨_,e2⟩|e2
     ·omega
     ·have:=(ja.lt _ e2).1;omega
    ·omega
    ·rcases hP.n _ e with e|e
     ·simp only[Value.ownBlock,zyP]at e;omega
     ·omega)
   clear hP hR hF nL bI af jJ jn fX fj;go_wp2_with fail
   go_region_with (go_at_call 55;refine CI.o.mono ?_;rintro e wA ⟨rfl,rfl⟩)
   all_goals
    go_wp2_with fail
    refine bodyPost_ret (results_cell_row rfl _ _ w.heap.size _ _ _ _ rfl (Blk.drew (Blk.set (Blk.set (Blk.set ui.o 0 _) 1 _) 2 _)) underlying66 rfl (by kernel_rfl)) rfl ?_;have f9:Fr (fun k=>k=w.heap.size) wr (((wr.setCell ⟨w.heap.size,0,none⟩ (.slice rp rn rc)).setCell ⟨w.heap.size,1,none⟩ (.int .i64 l.length)).setCell ⟨w.heap.size,2,none⟩ (.int .i64 (fns.idxOf [109,97,105,110]:Nat))).drew:=((((Fr.refl (fun k=>k=w.heap.size) _).set _ _ (.inl rfl)).set _ _ (.inl rfl)).set _ _ (.inl rfl)).drew;refine ⟨Zi,w1.heap.size,.slice rp rn rc,rfl,HP.o.c.frk f9 ?_,?_⟩
    ·exact Ck.o
    ·exact Fr.drew (Fr.set (Fr.set (Fr.set ub.o _ _ (.inr (zyN _))) _ _ (.inr (zyN _))) _ _ (.inr (zyN _)))
end Go.Proofs.YtgahgkddaljmkaaGreatDoor
namespace Go.Proofs.YtgahgkddaljmkaaGreatDoor
open Tryz
open Go.RowKit
namespace Cp
theorem zlz{M N:Nat}(fns:List Nm)(hM:M<=5000):∀ (l:List Th.zbr) (i:Nat) (bl:List (Nat × List Ins)),(∀ f∈l,Dp N f.e/\wt N f.e<=M/\f.params.length<=5000)->i+l.length<=bl.length->(∀ (j:Nat) (b:Nat × List Ins),bl[j]?=some b->(j<i\/i+l.length<=j)->zq5 b) ->
  (∀ b∈lines (free N) fns N i l bl,zq5 b)/\i+l.length<=(lines (free N) fns N i l bl).length
 |[],i,bl,_,hl,h=>by
  rw[lines];refine ⟨fun b hb=>?_,hl⟩;obtain ⟨j,hj⟩:=List.mem_iff_getElem?.1 hb;exact h j b hj (by simp;omega)
 |f::l,i,bl,hf,hl,h=>by
  obtain ⟨f1,f2,f3⟩:=hf f (by simp);simp only[zy8]at hl h;rw[lines];obtain ⟨sl,aK⟩:∃ sl:List Nm,sl=(Th.texts f.params).reverse:=⟨_,rfl⟩;have s8:sl.length<=5000:=by rw[aK];simp[Th.texts];omega
  rw[<-aK];obtain ⟨⟨⟨more,e1,g1⟩,c,d1,o1⟩,a2⟩:=zbC (M:=M) N fns hM N f.e 0 ⟨bl,sl,[]⟩ f1 f1 f2;have a3:=(zaK M N fns N f.e 0 ⟨bl,sl,[]⟩ f1 f2).1;have a4:=zmG hM f2;generalize work (free N) fns N f.e 0 ⟨bl,sl,[]⟩=q at e1 d1 a2 a3 ⊢;simp only[zzm,zzG,zzb]at e1 d1 a2 a3;have p7:bl.length<=q.blocks.length:=by rw[e1];simp
  have gJ:∀ (j:Nat) (b:Nat × List Ins),(q.blocks.set i (sl.length,q.code))[j]?=some b->(j<i+1\/i+1+l.length<=j)->zq5 b:=by
   intro j b hj E0;rw[zyV]at hj;by_cases ki:i=j
   ·rw[if_pos ki]at hj;subst ki;rw[if_pos (by omega)]at hj;cases hj;refine ⟨by simp only;omega,fun e0=>?_,by simp only;omega,fun x hx=>?_⟩
    ·simp only at e0;rw[e0]at a2;simp at a2
    ·simp only at hx;rw[d1]at hx;exact o1 x hx
   ·rw[if_neg ki,e1,zzj]at hj;by_cases gT:j<bl.length
    ·rw[if_pos gT]at hj;exact h j b hj (by omega)
    ·rw[if_neg gT]at hj;exact g1 b (zy1 hj)
  obtain ⟨i1,i2⟩:=zlz fns hM l (i+1) (q.blocks.set i (sl.length,q.code)) (fun x hx=>hf x (by simp[hx])) (by rw[zy6];omega) gJ;exact ⟨i1,by simp only[zy8];omega⟩
variable {M N:Nat}
theorem zn9(hM:M<=5000){l:List Th.zbr}(hf:∀ f∈l,Dp N f.e/\wt N f.e<=M/\f.params.length<=5000):(∀ b∈program N l,zq5 b)/\l.length<=(program N l).length:=by
 obtain ⟨h1,h2⟩:=zlz (l.map fun f=>f.name.s) hM l 0 (List.replicate l.length (0,[])) hf (by simp) (fun j b hj E0=>by
  have:=(zyL.1 hj).1;simp at this;omega)
 exact ⟨h1,by unfold program;omega⟩
end Cp
variable {w:World}{sv:Value}{n size:Nat}{xs:List Value}
theorem zhM{e:TypeId}(h:w.ownsRow 0 e size sv n xs)(hn:0<n):∃ g cap,sv=.slice (some ⟨g,0,none⟩) n cap/\sv.ownBlock=some g/\g<w.heap.size/\∀ j v,xs[j]?=some v->w.cell? ⟨g,j,none⟩=some v:=by
 have h0:=h;obtain ⟨h1,h2⟩:=h;rcases h2 with ⟨rfl,rfl⟩|⟨g,cap,cur,rfl,hg,hb,r1,r2,r3,r4⟩
 ·omega
 ·refine ⟨g,cap,rfl,rfl,(zyY.1 hb).1,fun j v hj=>?_⟩;have gT:=(zyL.1 hj).1;rw[h0.cellAt j (by omega)];exact hj
theorem zh5:∀ (l:List (Nat × List Ins)) (vs:List Value) (i:Nat) (b:Nat × List Ins) (v:Value),l[i]?=some b->vs[i]?=some v->(zaz l vs)[i*2]?=some (.int .i64 b.1)/\(zaz l vs)[i*2+1]?=some v
 |[],_,_,_,_,h,_=>by simp at h
 |_::_,[],_,_,_,_,h=>by simp at h
 |x::l,y::vs,0,b,v,h1,h2=>by simp at h1 h2;subst h1 h2;simp[zaz]
 |x::l,y::vs,i+1,b,v,h1,h2=>by
  have:=zh5 l vs i b v (by simpa using h1) (by simpa using h2);simp only[zaz];rw[show (i+1)*2=i*2+1+1 by omega];simp only[zy7,zzb,zzT];exact this
theorem zgL:∀ (l:List (Nat × Nat × Nat)) (i t c b:Nat),l[i]?=some (t,c,b)->(zbs l)[i*3]?=some (.int .i64 t)/\(zbs l)[i*3+1]?=some (.int .i64 c)/\(zbs l)[i*3+2]?=some (.int .i64 b)
 |[],_,_,_,_,h=>by simp at h
 |x::l,0,t,c,b,h=>by simp at h;subst h;simp[zbs]
 |x::l,i+1,t,c,b,h=>by
  have:=zgL l i t c b (by simpa using h);unfold zbs at this ⊢;rw[List.flatMap_cons,show (i+1)*3=i*3+1+1+1 by omega];simp only[zy7,zzb,zzT];exact this
variable {Z:Nat->Prop}{v:Value}
theorem zxu{i:Ins}{mb wb:Nat}(hm:w.heap.size<=mb)(hw:w.heap.size<=wb)(h:zo5 Z w v i)(ho:Cp.zq6 i):IAt w mb wb (.slice none 0 0) v i:=by
 cases i with
 |choose zao=>
  obtain ⟨av,h1,h2,h3⟩:=h;have hp:0<zao.length:=zzA.2 h3;obtain ⟨g,cap,rfl,_,fX,hc⟩:=zhM h2.1 hp;have uO:zao.length<=5000:=ho;refine ⟨_,h1,g,cap,rfl,fX,?_,by omega,fun j t c b hj=>?_⟩
  ·rintro (e|e|e)
   ·omega
   ·omega
   ·cases e
  ·obtain ⟨a1,a2,a3⟩:=zgL zao j t c b hj;exact ⟨hc _ _ a1,hc _ _ a2,hc _ _ a3⟩
 |_=>exact h
variable {cb:Nat}{rv:Value}{fns:List Cp.Nm}
theorem zsQ{cd:List (Nat × List Ins)}(h:CS Z w cb rv fns cd)(hg:∀ b∈cd,Cp.zq5 b)(hp:0<cd.length):zqc w rv cd:=by
 intro mb wb hm hw;obtain ⟨cP,h1,h2,h3⟩:=h.zkI;obtain ⟨g,cap,rfl,_,fX,hc⟩:=zhM h2 hp;refine ⟨g,cap,rfl,fX,?_,fun i n is hi=>?_⟩
 ·rintro (e|e|e)
  ·omega
  ·omega
  ·cases e
 ·obtain ⟨b1,b2,b3,b4⟩:=hg _ (zy1 hi);simp only at b1 b2 b3 b4;have br:=(zyL.1 hi).1;obtain ⟨cv,iW⟩:∃ cv,cP[i]?=some cv:=⟨_,zyM (by omega)⟩;obtain ⟨e1,e2⟩:=zh5 cd cP i (n,is) cv hi iW;obtain ⟨vs,r1,r2,r3⟩:=h3 i (n,is) cv hi iW;simp only at r1 r2 r3;obtain ⟨g2,fI,rfl,_,aF,bT⟩:=zhM r1.1 (zzA.2 b2);refine ⟨by omega,b3,hc _ _ e1,g2,fI,vs,hc _ _ e2,aF,?_,r2,fun j x hj=>?_⟩
  ·rintro (e|e|e)
   ·omega
   ·omega
   ·cases e
  ·have gT:=(zyL.1 hj).1;obtain ⟨v,hv⟩:∃ v,vs[j]?=some v:=⟨_,zyM (by omega)⟩;exact ⟨v,hv,bT _ _ hv,zxu hm hw (r3 j v x hv hj) (b4 x (zy1 hj))⟩
end Go.Proofs.YtgahgkddaljmkaaGreatDoor
