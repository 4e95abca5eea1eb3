/- HdA .. HdE -/
import Derived.Test.YtgahgkddaljmkaaGreatDoorT23
set_option maxRecDepth 100000
set_option maxHeartbeats 4000000
namespace Go.Proofs.YtgahgkddaljmkaaGreatDoor
open Tryz
namespace Ab
namespace Sg
variable {hf:Nat} {cd:List (Nat × List Ins)} {Q:Except Nat Ma->Prop} {h:List Nd} {st:List Wd} {fns:List Nat} {f W F:Nat} {nx bl:Int} {is:List Ins}{a d:Nat}
theorem zHo{nd:Nd}(ha:h[a]?=some (.fwd d))(hv:h[d]?=some nd)(R:Res hf Q h (st++[.ad a]) fns f W (F+1))(k:∀ f,Res hf Q h (st++[.ad d]) fns f W F->Gv hf cd Q ⟨h,st++[.ad d],fns,f,nx,bl⟩)(hd:isV nd=true:=by rfl):Ex hf cd Q [.enter] ⟨h,st++[.ad a],fns,f,nx,bl⟩:=by
 have rY:=(zyL.1 hv).1;refine zCa R fun f' _ R'=>?_
 show Aft hf cd Q _ (Ma.enter hf _ _);unfold Ma.enter;rw[show (⟨h,st++[.ad a],fns,f',nx,bl⟩:Ma).st.getLast?=some (.ad a) by simp];simp only;rw[zgl ha,hv,zGM,show (st++[Wd.ad a]).length=(st++[Wd.ad d]).length by simp];rcases k f' (R'.stack (fun c hc=>by rcases zzi.1 hc with hc|hc;exact .inl (List.mem_append_left _ hc);cases zze.1 hc;exact .inr rY) (by simp)) ((st++[Wd.ad d]).length+1) (Nat.lt_succ_self _) with ⟨j,e1,e2⟩|⟨A,e1,e2⟩
 ·cases nd <;> first|exact .inl ⟨j,e1,e2⟩|cases hd
 ·cases nd <;> first|exact .inr ⟨A,e1,zC9 e2⟩|cases hd
def zHn (h:List Nd) (m:Nat) (x:Int):Prop:=∃ v,(m=v\/h[m]?=some (.fwd v))/\h[v]?=some (.num x)
variable {m:Nat}{x:Int}
theorem zHF(hn:zHn h m x)(R:Res hf Q h (st++[.ad m]) fns f W (F+1))(k:∀ v f,h[v]?=some (.num x)->Res hf Q h (st++[.ad v]) fns f W F->Gv hf cd Q ⟨h,st++[.ad v],fns,f,nx,bl⟩):Ex hf cd Q [.enter] ⟨h,st++[.ad m],fns,f,nx,bl⟩:=by
 obtain ⟨v,rfl|hm,hv⟩:=hn
 ·exact zCq hv R fun f R=>k _ f hv R
 ·exact zHo hm hv R fun f R=>k _ f hv R
variable {b:Nat}
theorem zHs{x:Wd}{F:Nat}(hv:h[a]?=some (.clo b []))(hb:(cd.map Prod.fst)[b]?=some 1)(R:Res hf Q h (st++[x,.mk 2 1,.ad a]) fns f 0 F)(k:Fin hf cd Q ⟨h,st++[x],fns,f,b,bl⟩):Gv hf cd Q ⟨h,st++[x,.mk 2 1,.ad a],fns,f,nx,bl⟩:=fun g hg=>by
 cases g with
 |zero=>exact absurd hg (by omega)
 |succ g=>
  have hl:(st++[x,.mk 2 1,.ad a]).length=st.length+3:=by simp
  rw[Ma.za1,if_neg (by show ¬ (st++[x,.mk 2 1,.ad a]).length<=1;omega)];have e2:(st++[x,.mk 2 1,.ad a])[(st++[x,.mk 2 1,.ad a]).length-2]?=some (.mk 2 1):=by rw[hl];simp
  simp only[e2];rw[if_neg (by omega),if_neg (by omega),if_neg (by omega),if_pos trivial];have ea:Ma.za5 hf (cd.map Prod.fst) 1 ⟨h,st++[x,.mk 2 1,.ad a],fns,f,nx,bl⟩=some (.ok (true,⟨h,st++[x],fns,f,b,bl⟩))\/(Ma.za5 hf (cd.map Prod.fst) 1 ⟨h,st++[x,.mk 2 1,.ad a],fns,f,nx,bl⟩=some (.error 4)/\Q (.error 4)):=by
   unfold Ma.za5;rw[show (⟨h,st++[x,.mk 2 1,.ad a],fns,f,nx,bl⟩:Ma).st.getLast?=some (.ad a) by simp];simp only[hv,hb];rw[if_neg (by simp),if_neg (by simp),if_neg (by omega)];unfold Ma.call ask;by_cases aJ:Fits hf ⟨h,st++[x,.mk 2 1,.ad a],fns,f,nx,bl⟩ ([]:List Nat).length
   ·rw[if_pos aJ];left;have et:(st++[x,.mk 2 1,.ad a]).take (st.length+1)=st++[x]:=by
     rw[List.take_append,zy9 (by omega),Nat.add_sub_cancel_left];rfl
    simp[okA,leave,zcE,et]
   ·rw[if_neg aJ];exact .inr ⟨rfl,R.2.1.elim id (fun x=>(aJ (zAR R.1.shut x)).elim)⟩
  rcases ea with ea|⟨ea,q4⟩
  ·rw[ea];exact .inr ⟨_,rfl,k⟩
  ·rw[ea];exact .inl ⟨4,rfl,q4⟩
variable {t:Nat}
theorem zHK(ht:t<=1000000000)(R:Res hf Q h st fns f (W+2) (F+1))(k:∀ f,Res hf Q (h++[.data t []]) (st++[.ad h.length]) fns f W F->Ex hf cd Q is ⟨h++[.data t []],st++[.ad h.length],fns,f,nx,bl⟩):Ex hf cd Q (.pack t 0::is) ⟨h,st,fns,f,nx,bl⟩:=by
 refine zCa R fun f' _ R'=>?_
 show Aft hf cd Q _ (if t<=1000000000/\0<4096 then _ else _);rw[if_pos ⟨ht,by omega⟩];unfold Ma.mkN;refine zCh (A:=⟨h,st,fns,f',nx,bl⟩) (R'.less (show 0+2<=W+2 by omega) (zyN _)) ?_;refine .inr ⟨⟨h++[.data t []],st++[.ad h.length],fns,f',nx,bl⟩,?_,k f' ?_⟩
 ·simp[zlT,zcE,zwL,okA]
 ·exact (R'.node (n:=.data t []) (W':=W+1) rfl (by simp[sz])).stack (fun c hc=>by rcases zzi.1 hc with hc|hc;exact .inl hc;cases zze.1 hc;exact .inr (by simp)) (by simp;omega)
theorem ex_eq{y:Int}(hx:h[a]?=some (.num x))(hy:h[b]?=some (.num y))(R:Res hf Q h (st++[.ad a,.ad b]) fns f (W+1) (F+1))(k:∀ t f,t=(if x=y then 2 else 1)->Res hf Q (h++[.data t []]) (st++[.ad h.length]) fns f W F->Ex hf cd Q is ⟨h++[.data t []],st++[.ad h.length],fns,f,nx,bl⟩):Ex hf cd Q (.comp ⟨#[61,61]⟩::is) ⟨h,st++[.ad a,.ad b],fns,f,nx,bl⟩:=by
 refine zCa R fun f' _ R'=>?_
 show Aft hf cd Q _ (Ma.compute hf _ _);unfold Ma.compute;have e0:Ma.zdW ⟨h,st++[.ad a,.ad b],fns,f',nx,bl⟩ 0=some (.ok y):=by
  have:=zCR (st:=st++[.ad a]) (fns:=fns) (f:=f') (nx:=nx) (bl:=bl) hy
  rwa [zzk]at this
 have e1:Ma.zdW ⟨h,st++[.ad a,.ad b],fns,f',nx,bl⟩ 1=some (.ok x):=by
  unfold Ma.zdW;rw[if_pos (by simp)];simp[hx]
 rw[e0];simp only;rw[e1];simp only;have ec:zcE (st++[.ad a,.ad b]) 2=st:=by simp[zcE]
 rw[ec];unfold Ma.calc;rw[if_neg (by decide),if_neg (by decide),if_neg (by decide),if_neg (by decide),if_neg (by decide),if_pos rfl];unfold Ma.zww Ma.mkN;have R1:Res hf Q h st fns f' (W+3) F:=R'.stack (fun c hc=>.inl (List.mem_append_left _ hc)) (by simp;omega);obtain ⟨t,ht⟩:∃ t,t=(if x=y then 2 else 1):=⟨_,rfl⟩;refine zCh (A:=⟨h,st,fns,f',nx,bl⟩) (R1.less (by omega) (zyN _)) (.inr ⟨⟨h++[.data t []],st++[.ad h.length],fns,f',nx,bl⟩,?_,k t f' ht ?_⟩)
 ·simp[zlT,zcE,zwL,okA,ht]
 ·exact ((R1.node (n:=.data t []) (W':=W+2) rfl (by simp[sz])).stack (fun a ha=>by rcases zzi.1 ha with ha|ha;exact .inl ha;cases zze.1 ha;exact .inr (by simp)) (by simp;omega))
theorem zHp{t' c' b':Nat}{fs:List Nat}{zao:List (Nat × Nat × Nat)}(aH:t'≠t)(hv:h[a]?=some (.data t fs))(R:Res hf Q h (st++[.ad a]) fns f (W+fs.length) (F+1))(k:∀ f,Res hf Q h (st++(fs.map Wd.ad).reverse) fns f W F->Fin hf cd Q ⟨h,st++(fs.map Wd.ad).reverse,fns,f,b,bl⟩):Ex hf cd Q [.choose ((t',c',b')::(t,fs.length,b)::zao)] ⟨h,st++[.ad a],fns,f,nx,bl⟩:=by
 rcases zFk (cd:=cd) (zao:=zao) (nx:=nx) hv R k with ⟨j,e1,e2⟩|⟨A,e1,e2⟩
 all_goals
  have hs:Ma.zbb hf (cd.map Prod.fst) [.choose ((t',c',b')::(t,fs.length,b)::zao)] ⟨h,st++[.ad a],fns,f,nx,bl⟩=Ma.zbb hf (cd.map Prod.fst) [.choose ((t,fs.length,b)::zao)] ⟨h,st++[.ad a],fns,f,nx,bl⟩:=by
   rw[Ma.zbb,Ma.zbb];have:∀ B:Ma,B.h=h->B.st=st++[.ad a]->Ma.step hf (cd.map Prod.fst) B (.choose ((t',c',b')::(t,fs.length,b)::zao))=Ma.step hf (cd.map Prod.fst) B (.choose ((t,fs.length,b)::zao)):=fun B h1 h2=>by
    show Ma.choose hf _ B=Ma.choose hf _ B;unfold Ma.choose;rw[h1,h2,show (st++[Wd.ad a]).getLast?=some (.ad a) by simp];simp only[hv];rw[Ma.zcc,if_neg aH]
   split
   ·rfl
   ·rw[this _ rfl rfl]
 ·exact .inl ⟨j,hs.trans e1,e2⟩
 ·exact .inr ⟨A,hs.trans e1,e2⟩
variable {hf K:Nat} {Q:Except Nat Ma->Prop} {h:List Nd} {st:List Wd} {fns:List Nat} {f W F:Nat} {nx bl:Int}
def hdC (K:Nat):List (Nat × List Ins):=
 [(1,[.push 0,.wait 10,.wait 12,.push 0,.zci 4,.enter]),(1,[.wait 17,.push 0,.zci 2,.enter]),
  (0,[.close 18 0,.push 0,.wait 20,.push 0,.zbF 1,.zcW 1,.zci 5,.enter]),(1,[.pack 1 0,.zci 1,.enter]),(2,[.comp ⟨#[45]⟩,.enter]),
  (1,[.zbX,.push 0,.wait 4,.num 1,.zci 3,.enter]),(1,[.wait 5,.push 0,.zci 2,.enter]),(1,[.push 0,.close 6 1,.zbF 1,.zcW 0,.zci 3,.enter]),
  (2,[.pack 2 2,.enter]),(1,[.push 0,.close 7 1,.push 0,.zbF 2,.close 8 0,.zci 4,.enter]),(2,[.choose [(2,0,3),(1,0,9)]]),(2,[.comp ⟨#[61,61]⟩,.enter]),
  (1,[.zbX,.push 0,.wait 11,.num 0,.zci 3,.enter]),(0,[.num 0,.zci 1,.enter]),(2,[.comp ⟨#[43]⟩,.enter]),
  (2,[.zbX,.push 1,.wait 14,.push 0,.zbF 1,.zcW 1,.zci 5,.enter]),(2,[.push 0,.wait 15,.num 1,.zci 3,.enter]),(1,[.choose [(1,0,13),(2,2,16)]]),
  (0,[.num K,.zbF 1,.zcW 0,.zci 3,.enter]),(2,[.comp ⟨#[43]⟩,.enter]),(2,[.zbX,.push 1,.wait 19,.push 0,.zbF 1,.zcW 1,.zci 5,.enter])]
def FH (h:List Nd) (fns:List Nat):Prop:=h[0]?=some (.clo 0 [])/\h[1]?=some (.clo 1 [])/\fns[0]?=some 0/\fns[1]?=some 1
variable {h':List Nd}{c:Nat}
theorem FH.to(o:FH h fns)(hc:2<=c)(hs:∀ i,i<h.length->i≠c->h'[i]?=h[i]?):FH h' fns:=by
 have h0:=(zyL.1 o.1).1;have h1:=(zyL.1 o.2.1).1;exact ⟨by rw[hs 0 h0 (by omega)];exact o.1,by rw[hs 1 h1 (by omega)];exact o.2.1,o.2.2⟩
def NT (h:List Nd) (c x:Nat):Prop:=h[c]?=some (.num x)\/∃ m,h[c]?=some (.clo 6 [m])/\zHn h m ((x:Int)+1)
theorem zHm(l:List Wd)(n:Nat)(T:List Wd)(h:l.length=T.length+n):(l.length:Int)-(n:Nat)=(T.length:Int):=by omega
theorem zHG{x:Nat}(hx:x<=1000)(hc:NT h c x)(R:Res hf Q h (st++[.ad c]) fns f (W+20) (F+20))(k:∀ (h':List Nd) (v f:Nat) (nx bl:Int),h.length<=h'.length->(∀ i,i<h.length->i≠c->h'[i]?=h[i]?)->zHn h' c x->h'[v]?=some (.num x)->Res hf Q h' (st++[.ad v]) fns f W F->Gv hf (hdC K) Q ⟨h',st++[.ad v],fns,f,nx,bl⟩):Ex hf (hdC K) Q [.enter] ⟨h,st++[.ad c],fns,f,nx,bl⟩:=by
 rcases hc with hc|⟨m,hc,v,hm,hv⟩
 ·exact zCq hc (R.less (W':=W) (F':=F+1) (by omega) (by omega)) fun f R=>k h c f nx bl (zyN _) (fun _ _ _=>rfl) ⟨c,.inl rfl,hc⟩ hc R
 ·have aN:c<h.length:=(zyL.1 hc).1;have AT:v≠c:=fun e=>by rw[e,hc]at hv;cases hv
  have Kt:m≠c:=fun e=>by rcases hm with rfl|hm;exact AT e;rw[e,hc]at hm;cases hm
  have hn:zHn (h.set c .busy) m ((x:Int)+1):=⟨v,hm.imp id (fun hm=>by rw[zAo (Ne.symm Kt)];exact hm),by rw[zAo (Ne.symm AT)];exact hv⟩;refine zFz (W:=W+18) (F:=F+19) hc rfl R fun f R=>zB4 (n:=1) rfl ?_
  rw[zHm _ 1 (st++[.ad c,.mk 0 0]) (by simp)];rw[show st++[Wd.ad c,.mk 0 0,.ad m]=st++[.ad c,.mk 0 0]++[.ad m] by simp]at R ⊢;refine zCw (W:=W+17) (F:=F+18) (by omega) R fun f R=>?_
  refine zCn (x:=.ad m) (W:=W+16) (F:=F+17) (by omega) (by rw[zzk,zCN];rfl) R fun f R=>?_
  rw[show st++[Wd.ad c,.mk 0 0]++[.ad m]++[.mk 1 5]++[.ad m]=st++[.ad c,.mk 0 0]++[.ad m]++[.mk 1 5,.ad m] by simp]at R ⊢;refine zCk (F:=F+16) rfl R fun f R=>?_
  rw[show st++[Wd.ad c,.mk 0 0]++[.mk 1 5,.ad m]=st++[.ad c,.mk 0 0]++[.mk 1 5]++[.ad m] by simp]at R ⊢;refine zHF hn (R.less (W':=W+16) (F':=F+15) (by omega) (by omega)) fun u f hu R=>?_
  rw[zzk]at R ⊢;refine zCG (by omega) (zB4 (n:=1) rfl ?_);rw[zHm _ 1 (st++[.ad c,.mk 0 0]) (by simp)];have R1:Res hf Q (h.set c .busy) (st++[.ad c,.mk 0 0]++[.ad u]) fns f (W+16) (F+14):=R.stack (fun b hb=>by simp at hb ⊢;rcases hb with hb|hb|hb <;> simp[hb]) (by simp);refine zDu (F:=F+13) hu R1 fun f R=>?_
  refine zCn (x:=.ad u) (W:=W+15) (F:=F+12) (by omega) (by rw[zCN];rfl) R fun f R=>?_
  refine zCw (W:=W+14) (F:=F+11) (by omega) R fun f R=>?_
  refine zEk (W:=W+11) (F:=F+10) R fun f R=>?_
  have e0:(h.set c Nd.busy).length=h.length:=zy6;rw[show st++[Wd.ad c,.mk 0 0]++[.ad u]++[.ad u]++[.mk 1 4]++[.ad (h.set c Nd.busy).length]=st++[.ad c,.mk 0 0]++[.ad u]++[.ad u,.mk 1 4,.ad (h.set c Nd.busy).length] by simp]at R ⊢;refine zCk (F:=F+9) rfl R fun f R=>?_
  rw[show st++[Wd.ad c,.mk 0 0]++[.ad u,.mk 1 4,.ad (h.set c Nd.busy).length]=st++[.ad c,.mk 0 0]++[.ad u]++[.mk 1 4]++[.ad (h.set c Nd.busy).length] by simp]at R ⊢;have h1:(h.set c Nd.busy++[Nd.num 1])[(h.set c Nd.busy).length]?=some (.num 1):=by simp
  refine zCq (W:=W+11) (F:=F+8) h1 R fun f R=>?_
  rw[zzk]at R ⊢;refine zCG (by omega) (zB4 (n:=2) rfl ?_);rw[zHm _ 2 (st++[.ad c,.mk 0 0]) (by simp)];have R2:Res hf Q (h.set c .busy++[.num 1]) (st++[.ad c,.mk 0 0]++[.ad u,.ad (h.set c Nd.busy).length]) fns f (W+11) (F+8):=R.stack (fun b hb=>by simp at hb ⊢;rcases hb with hb|hb|hb|hb <;> simp[hb]) (by simp);rw[show st++[Wd.ad c,.mk 0 0]++[.ad u]++[.ad (h.set c Nd.busy).length]=st++[.ad c,.mk 0 0]++[.ad u,.ad (h.set c Nd.busy).length] by simp];have Kq:u<(h.set c Nd.busy).length:=(zyL.1 hu).1;have ew:opV 1 ((x:Int)+1) 1=some ((x:Nat):Int):=by
   show some (IntKind.i64.wrap ((x:Int)+1-1))=_;rw[Int.add_sub_cancel,IntWalk.i64_in _ ⟨by omega,by omega⟩]
  refine zDt (j:=1) (W:=W+10) (F:=F+7) (by omega) (by rw[zzc Kq];exact hu) h1 R2 (fun e=>by rw[ew]at e;cases e) fun n hn f R=>?_
  rw[ew]at hn;cases hn;obtain ⟨h3,ld⟩:∃ h3,h3=h.set c Nd.busy++[Nd.num 1]:=⟨_,rfl⟩;rw[<-ld]at R ⊢;have l3:h3.length=h.length+1:=by rw[ld];simp
  have s3:∀ i,i<h.length->i≠c->h3[i]?=h[i]?:=fun i hi nP=>by rw[ld,zzc (by simpa using hi),zAo (Ne.symm nP)]
  have b3:h3[c]?=some .busy:=by rw[ld,zzc (by simpa using aN),List.getElem?_set_self aN]
  clear ld;have gU:(h3++[Nd.num (x:Int)])[h3.length]?=some (.num x):=by simp
  refine zCq (W:=W+3) (F:=F+1) gU (R.less (by omega) (by omega)) fun f R=>?_
  rw[zzk]at R ⊢;refine zEm (by rw[zzc (by omega)];exact b3) gU (k _ h3.length f _ _ (by simp;omega) (fun i hi nP=>?_) ⟨h3.length,.inr ?_,?_⟩ ?_ ?_)
  ·rw[zAo (Ne.symm nP),zzc (by omega)];exact s3 i hi nP
  ·exact List.getElem?_set_self (by simp;omega)
  ·rw[zAo (by omega)];exact gU
  ·rw[zAo (by omega)];exact gU
  ·exact ((R.set c (n:=.fwd h3.length) (by simp[inN]) rfl).less (zyN _) (zz0 F 1)).stack (fun b hb=>by simp at hb ⊢;rcases hb with hb|hb <;> simp[hb]) (by simp;omega)
variable {hf K:Nat} {Q:Except Nat Ma->Prop} {h:List Nd} {st:List Wd} {fns:List Nat} {f W F:Nat} {nx bl:Int}
def Upd (h':List Nd) (c x d L:Nat):Prop:=(x=0/\h'[d]?=some (.data 1 []))\/(x≠0/\∃ t,L<=t/\h'[d]?=some (.data 2 [c,t])/\h'[t]?=some (.clo 7 [c])/\zHn h' c x)
theorem zHn.app(hn:zHn h m x)(l:List Nd):zHn (h++l) m x:=by
 obtain ⟨v,hm,hv⟩:=hn;have dJ:=(zyL.1 hv).1;refine ⟨v,hm.imp id (fun hm=>?_),by rw[zzc dJ];exact hv⟩;have Av:=(zyL.1 hm).1;rw[zzc Av];exact hm
theorem zH1{x:Nat}(hx:x<=1000)(hc:NT h c x)(R:Res hf Q h (st++[.ad c]) fns f (W+60) (F+60))(k:∀ (h':List Nd) (d f:Nat) (nx bl:Int),h.length<=h'.length->(∀ i,i<h.length->i≠c->h'[i]?=h[i]?)->h.length<=d->Upd h' c x d h.length->Res hf Q h' (st++[.ad d]) fns f W F->Gv hf (hdC K) Q ⟨h',st++[.ad d],fns,f,nx,bl⟩):Fin hf (hdC K) Q ⟨h,st++[.ad c],fns,f,(0:Nat),bl⟩:=by
 refine zB4 (n:=1) rfl ?_;rw[zHm _ 1 st (by simp)];refine zCn (x:=.ad c) (W:=W+59) (F:=F+59) (by omega) (by rw[zCN];rfl) R fun f R=>?_
 refine zCw (W:=W+58) (F:=F+58) (by omega) R fun f R=>?_
 refine zCw (W:=W+57) (F:=F+57) (by omega) R fun f R=>?_
 refine zCn (x:=.ad c) (W:=W+56) (F:=F+56) (by omega) (by rw[zzk,zzk,zzk,zCN];rfl) R fun f R=>?_
 rw[show st++[Wd.ad c]++[.ad c]++[.mk 1 10]++[.mk 1 12]++[.ad c]=st++[.ad c]++[.ad c,.mk 1 10,.mk 1 12,.ad c] by simp]at R ⊢;refine zCk (F:=F+55) rfl R fun f R=>?_
 rw[show st++[Wd.ad c,.mk 1 10,.mk 1 12,.ad c]=st++[.ad c]++[.mk 1 10]++[.mk 1 12]++[.ad c] by simp]at R ⊢;refine zHG (W:=W+36) (F:=F+35) hx hc (R.less (by omega) (by omega)) fun h1 v f nx bl p1 p2 p3 p4 R=>?_
 rw[zzk]at R ⊢;refine zCG (by omega) (zB4 (n:=1) rfl ?_);rw[zHm _ 1 (st++[.ad c]++[.mk 1 10]) (by simp)];have R1:Res hf Q h1 (st++[.ad c]++[.mk 1 10]++[.ad v]) fns f (W+36) (F+35):=R.stack (fun b hb=>by simp at hb ⊢;rcases hb with hb|hb|hb <;> simp[hb]) (by simp);refine zDu (F:=F+34) p4 R1 fun f R=>?_
 refine zCn (x:=.ad v) (W:=W+35) (F:=F+33) (by omega) (by rw[zCN];rfl) R fun f R=>?_
 refine zCw (W:=W+34) (F:=F+32) (by omega) R fun f R=>?_
 refine zEk (W:=W+31) (F:=F+31) R fun f R=>?_
 rw[show st++[Wd.ad c]++[.mk 1 10]++[.ad v]++[.ad v]++[.mk 1 11]++[.ad h1.length]=st++[.ad c]++[.mk 1 10]++[.ad v]++[.ad v,.mk 1 11,.ad h1.length] by simp]at R ⊢;refine zCk (F:=F+30) rfl R fun f R=>?_
 rw[show st++[Wd.ad c]++[.mk 1 10]++[.ad v,.mk 1 11,.ad h1.length]=st++[.ad c]++[.mk 1 10]++[.ad v]++[.mk 1 11]++[.ad h1.length] by simp]at R ⊢;have hz:(h1++[Nd.num 0])[h1.length]?=some (.num 0):=by simp
 have qg:(h1++[Nd.num 0])[v]?=some (.num x):=by rw[zzc (zyL.1 p4).1];exact p4
 refine zCq (W:=W+31) (F:=F+29) hz R fun f R=>?_
 rw[zzk]at R ⊢;refine zCG (by omega) (zB4 (n:=2) rfl ?_);rw[zHm _ 2 (st++[.ad c]++[.mk 1 10]) (by simp)];have R2:Res hf Q (h1++[.num 0]) (st++[.ad c]++[.mk 1 10]++[.ad v,.ad h1.length]) fns f (W+31) (F+29):=R.stack (fun b hb=>by simp at hb ⊢;rcases hb with hb|hb|hb|hb <;> simp[hb]) (by simp);rw[show st++[Wd.ad c]++[.mk 1 10]++[.ad v]++[.ad h1.length]=st++[.ad c]++[.mk 1 10]++[.ad v,.ad h1.length] by simp];refine ex_eq (W:=W+30) (F:=F+28) qg hz R2 fun t f ht R=>?_
 obtain ⟨h2,kZ⟩:∃ h2,h2=h1++[Nd.num 0]:=⟨_,rfl⟩;have l2:h2.length=h1.length+1:=by rw[kZ];simp
 have s2:∀ i,i<h1.length->h2[i]?=h1[i]?:=fun i hi=>by rw[kZ,zzc hi]
 have n2:zHn h2 c x:=by rw[kZ];exact p3.app _
 rw[<-kZ]at R ⊢;clear kZ R2;have hd:(h2++[Nd.data t []])[h2.length]?=some (.data t []):=by simp
 refine zCq (W:=W+30) (F:=F+27) hd R fun f R=>?_
 rw[zzk]at R ⊢;refine zCG (by omega) (zB4 (n:=2) rfl ?_);rw[zHm _ 2 st (by simp)];have R3:Res hf Q (h2++[.data t []]) (st++[.ad c]++[.ad h2.length]) fns f (W+30) (F+27):=R.stack (fun b hb=>by simp at hb ⊢;rcases hb with hb|hb|hb <;> simp[hb]) (by simp);obtain ⟨h3,ld⟩:∃ h3,h3=h2++[Nd.data t []]:=⟨_,rfl⟩;have l3:h3.length=h1.length+2:=by rw[ld];simp[l2]
 have s3:∀ i,i<h.length->i≠c->h3[i]?=h[i]?:=fun i hi nP=>by rw[ld,zzc (by omega),s2 i (by omega),p2 i hi nP]
 have n3:zHn h3 c x:=by rw[ld];exact n2.app _
 rw[<-ld]at R3 hd ⊢;clear ld R;by_cases h0:x=0
 ·subst h0;obtain rfl:t=2:=by rw[ht];rfl
  refine zFk (fs:=[]) (W:=W+30) (F:=F+26) hd (R3.less (by simp) (by omega)) fun f R=>zB4 (n:=1) rfl ?_
  simp only[List.map_nil,List.reverse_nil,zzS]at R ⊢;rw[zHm _ 1 st (by simp)];refine zHK (W:=W+28) (F:=F+25) (by omega) R fun f R=>?_
  refine zCk (F:=F+24) rfl R fun f R=>?_
  have hn:(h3++[Nd.data 1 []])[h3.length]?=some (.data 1 []):=by simp
  refine zCq (W:=W) (F:=F) hn (R.less (by omega) (by omega)) fun f R=>?_
  exact k _ h3.length f _ _ (by simp;omega) (fun i hi nP=>by rw[zzc (by omega)];exact s3 i hi nP) (by omega) (.inl ⟨rfl,hn⟩) R
 ·obtain rfl:t=1:=by rw[ht,if_neg (by omega)]
  refine zHp (fs:=[]) (W:=W+30) (F:=F+26) (by omega) hd (R3.less (by simp) (by omega)) fun f R=>zB4 (n:=1) rfl ?_
  simp only[List.map_nil,List.reverse_nil,zzS]at R ⊢;rw[zHm _ 1 st (by simp)];refine zCn (x:=.ad c) (W:=W+29) (F:=F+25) (by omega) (by rw[zCN];rfl) R fun f R=>?_
  refine zF1 (W:=W+26) (F:=F+24) (by omega) R fun f R=>?_
  refine zCn (x:=.ad c) (W:=W+25) (F:=F+23) (by omega) (by rw[zzk,zCN];rfl) R fun f R=>?_
  refine zDw (W:=W+24) (F:=F+22) (by omega) R fun f R=>?_
  refine zC8 (W:=W+22) (F:=F+21) (by omega) R fun f R=>?_
  have ht:(h3++[Nd.clo 7 [c]])[h3.length]?=some (.clo 7 [c]):=by simp
  obtain ⟨h4,I2⟩:∃ h4,h4=h3++[Nd.clo 7 [c]]:=⟨_,rfl⟩;have l4:h4.length=h3.length+1:=by rw[I2];simp
  have s4:∀ i,i<h3.length->h4[i]?=h3[i]?:=fun i hi=>by rw[I2,zzc hi]
  have n4:zHn h4 c x:=by rw[I2];exact n3.app _
  rw[<-I2]at R ht ⊢;clear I2;rw[show st++[Wd.ad c]++[.ad h3.length]++[.ad c]++[.mk 2 2]++[.ad h4.length]=st++[.ad c]++[.ad h3.length,.ad c,.mk 2 2,.ad h4.length] by simp]at R ⊢;refine zCk (F:=F+20) rfl R fun f R=>?_
  rw[show st++[Wd.ad h3.length,.ad c,.mk 2 2,.ad h4.length]=st++[.ad h3.length,.ad c,.mk 2 2]++[.ad h4.length] by simp]at R ⊢;have fj:(h4++[Nd.clo 8 []])[h4.length]?=some (.clo 8 []):=by simp
  refine zDh (n:=1) (F:=F+19) fj rfl R fun f R=>?_
  rw[zzk]at R ⊢;refine zGA fj rfl (R.less (by omega) (zyN _)) (zB4 (n:=2) rfl ?_);rw[zHm _ 2 st (by simp)];have R5:Res hf Q (h4++[.clo 8 []]) (st++[.ad h3.length,.ad c]) fns f (W+24) (F+19):=R.stack (fun b hb=>by simp at hb ⊢;rcases hb with hb|hb|hb <;> simp[hb]) (by simp;omega);refine zGo (W:=W+10) (F:=F+10) (by omega) (R5.less (by omega) (by omega)) fun f R=>?_
  obtain ⟨h5,J2⟩:∃ h5,h5=h4++[Nd.clo 8 []]:=⟨_,rfl⟩;have l5:h5.length=h4.length+1:=by rw[J2];simp
  have s5:∀ i,i<h4.length->h5[i]?=h4[i]?:=fun i hi=>by rw[J2,zzc hi]
  have n5:zHn h5 c x:=by rw[J2];exact n4.app _
  rw[<-J2]at R ⊢;clear J2;have hn:(h5++[Nd.data 2 [c,h3.length]])[h5.length]?=some (.data 2 [c,h3.length]):=by simp
  refine zCq (W:=W) (F:=F) hn (R.less (by omega) (by omega)) fun f R=>?_
  exact k _ h5.length f _ _ (by simp;omega) (fun i hi nP=>by rw[zzc (by omega),s5 i (by omega),s4 i (by omega)];exact s3 i hi nP) (by omega) (.inr ⟨h0,h3.length,by omega,hn,by rw[zzc (by omega),s5 _ (by omega)];exact ht,n5.app _⟩) R
variable {hf K:Nat} {Q:Except Nat Ma->Prop} {h:List Nd} {st:List Wd} {fns:List Nat} {f W F:Nat} {nx bl:Int}
def UL (K:Nat) (h:List Nd) (a n:Nat):Prop:=(h[a]?=some (.clo 18 [])/\n=K)\/∃ m,h[a]?=some (.clo 7 [m])/\zHn h m ((n:Int)+1)
def Cell (K:Nat) (h':List Nd) (n d L:Nat):Prop:=(n=0/\h'[d]?=some (.data 1 []))\/∃ n' c t,n=n'+1/\h'[d]?=some (.data 2 [c,t])/\L<=t/\UL K h' t n'
theorem zHn.to(hn:zHn h m x)(ha:∀ x,h[a]?≠some (.num x)/\h[a]?≠some (.fwd x.toNat))(hs:∀ i,i<h.length->i≠a->h'[i]?=h[i]?):zHn h' m x:=by
 obtain ⟨v,hm,hv⟩:=hn;have dJ:=(zyL.1 hv).1;have Jq:v≠a:=fun e=>(ha x).1 (e ▸ hv)
 refine ⟨v,hm.imp id (fun hm=>?_),by rw[hs v dJ Jq];exact hv⟩;have Av:=(zyL.1 hm).1;have Ks:m≠a:=fun e=>(ha (v:Int)).2 (by rw[<-e,hm,zy2])
 rw[hs m Av Ks];exact hm
theorem Upd.cell{x L L':Nat}(hu:Upd h' c x d L)(hl:L'<=L):Cell K h' x d L':=by
 rcases hu with ⟨h0,h1⟩|⟨h0,t,h1,h2,h3,h4⟩
 ·exact .inl ⟨h0,h1⟩
 ·exact .inr ⟨x-1,c,t,by omega,h2,by omega,.inr ⟨c,h3,by rwa [show ((x-1:Nat):Int)+1=x by omega]⟩⟩
theorem Cell.to{h':List Nd}{a n d L:Nat}(hc:Cell K h n d L)(ha:∀ x,h[a]?≠some (.num x)/\h[a]?≠some (.fwd x.toNat))(hd:d≠a)(hl:a<L)(hs:∀ i,i<h.length->i≠a->h'[i]?=h[i]?):Cell K h' n d L:=by
 rcases hc with ⟨h0,h1⟩|⟨n',c,t,h0,h1,h2,h3⟩
 ·exact .inl ⟨h0,by rw[hs d (zyL.1 h1).1 hd];exact h1⟩
 ·refine .inr ⟨n',c,t,h0,by rw[hs d (zyL.1 h1).1 hd];exact h1,h2,?_⟩;have tf:t≠a:=by omega
  rcases h3 with ⟨h3,h4⟩|⟨m,h3,h4⟩
  ·exact .inl ⟨by rw[hs t (zyL.1 h3).1 tf];exact h3,h4⟩
  ·exact .inr ⟨m,by rw[hs t (zyL.1 h3).1 tf];exact h3,h4.to ha hs⟩
variable {n:Nat}
theorem zHE(hn:n<=1000)(D8:2<=a)(o:FH h fns)(hu:UL K h a n)(R:Res hf Q h (st++[.ad a]) fns f (W+80) (F+80))(k:∀ (h':List Nd) (d f:Nat) (nx bl:Int),h.length<=h'.length->(∀ i,i<h.length->i≠a->h'[i]?=h[i]?)->h'[a]?=some (.fwd d)->h.length<=d->Cell K h' n d h.length->Res hf Q h' (st++[.ad d]) fns f W F->Gv hf (hdC K) Q ⟨h',st++[.ad d],fns,f,nx,bl⟩):Ex hf (hdC K) Q [.enter] ⟨h,st++[.ad a],fns,f,nx,bl⟩:=by
 have fin:∀ (h1:List Nd) (c f:Nat) (bl:Int),a<h.length->h1.length=h.length+1->(∀ i,i<h.length->i≠a->h1[i]?=h[i]?)->h1[a]?=some .busy->h.length=c->NT h1 c n->Res hf Q h1 (st++[.ad a,.mk 0 0]++[.ad c]) fns f (W+60) (F+60)->Fin hf (hdC K) Q ⟨h1,st++[.ad a,.mk 0 0]++[.ad c],fns,f,(0:Nat),bl⟩:=fun h1 c f bl aU l1 s1 b1 hc nt R=>by
  refine zH1 (W:=W) (F:=F) hn nt R fun h2 d f nx bl p1 p2 p3 p4 R=>?_
  have b2:h2[a]?=some .busy:=by rw[p2 a (by omega) (by omega)];exact b1
  obtain ⟨nd,hd,hv⟩:∃ nd,h2[d]?=some nd/\isV nd=true:=by
   rcases p4 with ⟨_,h1⟩|⟨_,t,_,h1,_⟩
   ·exact ⟨_,h1,rfl⟩
   ·exact ⟨_,h1,rfl⟩
  have rY:=(zyL.1 hd).1;rw[zzk]at R ⊢;refine zEm b2 hd (k _ d f _ _ (by rw[zy6];omega) (fun i hi Ap=>?_) (List.getElem?_set_self (by omega)) (by omega) ?_ ?_) hv
  ·rw[zAo (Ne.symm Ap),p2 i (by omega) (by omega)];exact s1 i hi Ap
  ·exact (p4.cell (L':=h.length) (by omega)).to (fun x=>by rw[b2];exact ⟨by simp,by simp⟩) (by omega) aU (fun i hi Ap=>zAo (Ne.symm Ap))
  ·exact (R.set a (n:=.fwd d) (by simpa [inN] using rY) rfl).stack (fun b hb=>by simp at hb ⊢;rcases hb with hb|hb <;> simp[hb]) (by simp)
 rcases hu with ⟨hu,rfl⟩|⟨m,hu,hm⟩
 ·have aU:=(zyL.1 hu).1;refine zCV (W:=W+79) (F:=F+79) hu rfl R fun f R=>zB4 (n:=0) rfl ?_
  rw[zHm _ 0 (st++[.ad a,.mk 0 0]) (by simp)];have e0:(h.set a Nd.busy).length=h.length:=zy6;refine zEk (W:=W+76) (F:=F+78) R fun f R=>?_
  rw[e0]at R ⊢;refine zDw (W:=W+75) (F:=F+77) (by omega) R fun f R=>?_
  refine zDv (a:=0) (W:=W+74) (F:=F+76) o.2.2.1 R fun f R=>?_
  rw[show st++[Wd.ad a,.mk 0 0]++[.ad h.length]++[.mk 2 1]++[.ad 0]=st++[.ad a,.mk 0 0]++[]++[.ad h.length,.mk 2 1,.ad 0] by simp]at R ⊢;refine zCk (F:=F+75) rfl R fun f R=>?_
  rw[show st++[Wd.ad a,.mk 0 0]++[.ad h.length,.mk 2 1,.ad 0]=st++[.ad a,.mk 0 0]++[.ad h.length,.mk 2 1]++[.ad 0] by simp]at R ⊢;have h0:(h.set a Nd.busy++[Nd.num n])[0]?=some (.clo 0 []):=by rw[zzc (by simp;omega),zAo (by omega)];exact o.1
  refine zDh (n:=0) (F:=F+74) h0 rfl R fun f R=>?_
  rw[zzk]at R ⊢;refine zHs h0 rfl (R.less (by omega) (zyN _)) (fin _ h.length f _ aU (by simp) (fun i hi Ap=>?_) ?_ rfl (.inl (by simp)) ?_)
  ·rw[zzc (by simpa using hi),zAo (Ne.symm Ap)]
  ·rw[zzc (by simpa using aU),List.getElem?_set_self aU]
  ·exact (R.less (W':=W+60) (F':=F+60) (by omega) (by omega)).stack (fun b hb=>by simp at hb ⊢;rcases hb with hb|hb|hb <;> simp[hb]) (by simp)
 ·have aU:=(zyL.1 hu).1;refine zFz (W:=W+78) (F:=F+79) hu rfl R fun f R=>zB4 (n:=1) rfl ?_
  rw[zHm _ 1 (st++[.ad a,.mk 0 0]) (by simp)];rw[show st++[Wd.ad a,.mk 0 0,.ad m]=st++[.ad a,.mk 0 0]++[.ad m] by simp]at R ⊢;have e0:(h.set a Nd.busy).length=h.length:=zy6;refine zCn (x:=.ad m) (W:=W+77) (F:=F+78) (by omega) (by rw[zCN];rfl) R fun f R=>?_
  refine zF1 (W:=W+74) (F:=F+77) (by omega) R fun f R=>?_
  rw[e0]at R ⊢;refine zDw (W:=W+73) (F:=F+76) (by omega) R fun f R=>?_
  refine zDv (a:=0) (W:=W+72) (F:=F+75) o.2.2.1 R fun f R=>?_
  rw[show st++[Wd.ad a,.mk 0 0]++[.ad m]++[.ad h.length]++[.mk 2 1]++[.ad 0]=st++[.ad a,.mk 0 0]++[.ad m]++[.ad h.length,.mk 2 1,.ad 0] by simp]at R ⊢;refine zCk (F:=F+74) rfl R fun f R=>?_
  rw[show st++[Wd.ad a,.mk 0 0]++[.ad h.length,.mk 2 1,.ad 0]=st++[.ad a,.mk 0 0]++[.ad h.length,.mk 2 1]++[.ad 0] by simp]at R ⊢;have h0:(h.set a Nd.busy++[Nd.clo 6 [m]])[0]?=some (.clo 0 []):=by rw[zzc (by simp;omega),zAo (by omega)];exact o.1
  have s1:∀ i,i<h.length->i≠a->(h.set a Nd.busy++[Nd.clo 6 [m]])[i]?=h[i]?:=fun i hi Ap=>by rw[zzc (by simpa using hi),zAo (Ne.symm Ap)]
  refine zDh (n:=0) (F:=F+73) h0 rfl R fun f R=>?_
  rw[zzk]at R ⊢;refine zHs h0 rfl (R.less (by omega) (zyN _)) (fin _ h.length f _ aU (by simp) s1 ?_ rfl (.inr ⟨m,by simp,hm.to (fun x=>by rw[hu];exact ⟨by simp,by simp⟩) s1⟩) ?_)
  ·rw[zzc (by simpa using aU),List.getElem?_set_self aU]
  ·exact (R.less (W':=W+60) (F':=F+60) (by omega) (by omega)).stack (fun b hb=>by simp at hb ⊢;rcases hb with hb|hb|hb <;> simp[hb]) (by simp)
variable {hf K:Nat} {Q:Except Nat Ma->Prop} {h:List Nd} {st:List Wd} {fns:List Nat} {f W F:Nat} {nx bl:Int}
def EL (h:List Nd):Nat->Nat->List Nat->Prop
 |0,a,ds=>ds=[]/\∃ d,h[a]?=some (.fwd d)/\h[d]?=some (.data 1 [])
 |n+1,a,ds=>∃ d c t IA,ds=d::IA/\h[a]?=some (.fwd d)/\h[d]?=some (.data 2 [c,t])/\EL h n t IA
theorem zHt{W2 F2:Nat}(hd:h[d]?=some (.data 2 [c,t]))(o:FH h fns)(hn:n<=1000)(R:Res hf Q h (st++[.mk 1 17]++[.ad d]) fns f (W2+60) (F2+60))(rec:∀ (h1:List Nd) (u f:Nat) (bl:Int),h1.length=h.length+1->(∀ i,i<h.length->h1[i]?=h[i]?)->h1[u]?=some (.num 1)->Res hf Q h1 (st++[.ad u,.mk 1 14]++[.ad t]) fns f (W2+30) (F2+30)->(∀ (h':List Nd) (v f:Nat) (nx bl:Int),h1.length<=h'.length->h'[u]?=some (.num 1)->h'[v]?=some (.num n)->Res hf Q h' (st++[.ad u,.mk 1 14]++[.ad v]) fns f (W+10) (F+10)->(∀ (w f:Nat) (nx bl:Int),w=h'.length->Res hf Q (h'++[.num ((n:Int)+1)]) (st++[.ad w]) fns f W F->Gv hf (hdC K) Q ⟨h'++[.num ((n:Int)+1)],st++[.ad w],fns,f,nx,bl⟩)->Gv hf (hdC K) Q ⟨h',st++[.ad u,.mk 1 14]++[.ad v],fns,f,nx,bl⟩)->Fin hf (hdC K) Q ⟨h1,st++[.ad u,.mk 1 14]++[.ad t],fns,f,(1:Nat),bl⟩):Gv hf (hdC K) Q ⟨h,st++[.mk 1 17]++[.ad d],fns,f,nx,bl⟩:=by
 rw[zzk]at R ⊢;refine zCG (by omega) (zB4 (n:=1) rfl ?_);rw[zHm _ 1 st (by simp)];have R1:Res hf Q h (st++[.ad d]) fns f (W2+58+[c,t].length) (F2+60):=(R.less (W':=W2+60) (by omega) (zyN _)).stack (fun b hb=>by simp at hb ⊢;rcases hb with hb|hb <;> simp[hb]) (by simp);refine zHp (fs:=[c,t]) (W:=W2+58) (F:=F2+59) (by omega) hd R1 fun f R=>zB4 (n:=2) rfl ?_
 rw[show st++([c,t].map Wd.ad).reverse=st++[.ad t,.ad c] by simp]at R ⊢;rw[zHm _ 2 st (by simp)];refine zCn (x:=.ad t) (W:=W2+57) (F:=F2+58) (by omega) (by rw[zCN];rfl) R fun f R=>?_
 refine zCw (W:=W2+56) (F:=F2+57) (by omega) R fun f R=>?_
 refine zEk (W:=W2+53) (F:=F2+56) R fun f R=>?_
 rw[show st++[Wd.ad t,.ad c]++[.ad t]++[.mk 1 15]++[.ad h.length]=st++[.ad t,.ad c]++[.ad t,.mk 1 15,.ad h.length] by simp]at R ⊢;refine zCk (F:=F2+55) rfl R fun f R=>?_
 rw[show st++[Wd.ad t,.mk 1 15,.ad h.length]=st++[.ad t]++[.mk 1 15]++[.ad h.length] by simp]at R ⊢;have h1:(h++[Nd.num 1])[h.length]?=some (.num 1):=by simp
 have s1:∀ i,i<h.length->(h++[Nd.num 1])[i]?=h[i]?:=fun i hi=>zzc hi
 have da:=(zyL.1 o.2.1).1;refine zCq (W:=W2+53) (F:=F2+54) h1 R fun f R=>?_
 rw[zzk]at R ⊢;refine zCG (by omega) (zB4 (n:=2) rfl ?_);rw[zHm _ 2 st (by simp)];have R2:Res hf Q (h++[.num 1]) (st++[.ad t]++[.ad h.length]) fns f (W2+53) (F2+54):=R.stack (fun b hb=>by simp at hb ⊢;rcases hb with hb|hb|hb <;> simp[hb]) (by simp);refine zDu (F:=F2+53) h1 R2 fun f R=>?_
 refine zCn (x:=.ad h.length) (W:=W2+52) (F:=F2+52) (by omega) (by rw[zzk,zCN];rfl) R fun f R=>?_
 refine zCw (W:=W2+51) (F:=F2+51) (by omega) R fun f R=>?_
 refine zCn (x:=.ad t) (W:=W2+50) (F:=F2+50) (by omega) (by rw[zzk,zzk,zzk,zCN];rfl) R fun f R=>?_
 refine zDw (W:=W2+49) (F:=F2+49) (by omega) R fun f R=>?_
 refine zDv (a:=1) (W:=W2+48) (F:=F2+48) o.2.2.2 R fun f R=>?_
 rw[show st++[Wd.ad t]++[.ad h.length]++[.ad h.length]++[.mk 1 14]++[.ad t]++[.mk 2 1]++[.ad 1]=st++[.ad t,.ad h.length]++[.ad h.length,.mk 1 14,.ad t,.mk 2 1,.ad 1] by simp]at R ⊢;refine zCk (F:=F2+47) rfl R fun f R=>?_
 rw[show st++[Wd.ad h.length,.mk 1 14,.ad t,.mk 2 1,.ad 1]=st++[.ad h.length,.mk 1 14]++[.ad t,.mk 2 1]++[.ad 1] by simp]at R ⊢;have l8:(h++[Nd.num 1])[1]?=some (.clo 1 []):=by rw[s1 1 da];exact o.2.1
 refine zDh (n:=0) (F:=F2+46) l8 rfl R fun f R=>?_
 rw[zzk]at R ⊢;refine zHs l8 rfl (R.less (by omega) (zyN _)) (rec _ h.length f _ (by simp) s1 h1 ((R.less (W':=W2+30) (F':=F2+30) (by omega) (by omega)).stack (fun b hb=>by simp at hb ⊢;rcases hb with hb|hb|hb <;> simp[hb]) (by simp)) fun h' v f nx bl p1 p2 p3 R k=>?_);rw[show st++[Wd.ad h.length,.mk 1 14]++[.ad v]=st++[.ad h.length]++[.mk 1 14,.ad v] by simp]at R ⊢;refine zCG (by omega) (zB4 (n:=2) rfl ?_);rw[zHm _ 2 st (by simp)];have R3:Res hf Q h' (st++[.ad h.length,.ad v]) fns f (W+10) (F+10):=R.stack (fun b hb=>by simp at hb ⊢;rcases hb with hb|hb|hb <;> simp[hb]) (by simp);rw[show st++[Wd.ad h.length]++[.ad v]=st++[.ad h.length,.ad v] by simp];have ew:opV 0 1 (n:Int)=some ((n:Int)+1):=by
  show some (IntKind.i64.wrap (1+(n:Int)))=_;rw[Int.add_comm,IntWalk.i64_in _ ⟨by omega,by omega⟩]
 refine zDt (j:=0) (W:=W+9) (F:=F+9) (by omega) p2 p3 R3 (fun e=>by rw[ew]at e;cases e) fun m hm f R=>?_
 rw[ew]at hm;cases hm;have gU:(h'++[Nd.num ((n:Int)+1)])[h'.length]?=some (.num ((n:Int)+1)):=by simp
 exact zCq (W:=W) (F:=F) gU (R.less (by omega) (by omega)) fun f R=>k _ f _ _ rfl R
theorem zHA(hd:h[d]?=some (.data 1 []))(R:Res hf Q h (st++[.mk 1 17]++[.ad d]) fns f (W+10) (F+10))(k:∀ (f:Nat) (nx bl:Int),Res hf Q (h++[.num 0]) (st++[.ad h.length]) fns f W F->Gv hf (hdC K) Q ⟨h++[.num 0],st++[.ad h.length],fns,f,nx,bl⟩):Gv hf (hdC K) Q ⟨h,st++[.mk 1 17]++[.ad d],fns,f,nx,bl⟩:=by
 rw[zzk]at R ⊢;refine zCG (by omega) (zB4 (n:=1) rfl ?_);rw[zHm _ 1 st (by simp)];have R1:Res hf Q h (st++[.ad d]) fns f (W+10+([]:List Nat).length) (F+10):=R.stack (fun b hb=>by simp at hb ⊢;rcases hb with hb|hb <;> simp[hb]) (by simp);refine zFk (fs:=[]) (W:=W+10) (F:=F+9) hd R1 fun f R=>zB4 (n:=0) rfl ?_
 simp only[List.map_nil,List.reverse_nil,zzS]at R ⊢;rw[zHm _ 0 st (by simp)];refine zEk (W:=W+7) (F:=F+8) R fun f R=>?_
 rw[show st++[Wd.ad h.length]=st++[]++[.ad h.length] by simp]at R ⊢;refine zCk (F:=F+7) rfl R fun f R=>?_
 have gU:(h++[Nd.num 0])[h.length]?=some (.num 0):=by simp
 exact zCq (W:=W) (F:=F) gU (R.less (by omega) (by omega)) fun f R=>k f _ _ R
end Sg
end Ab
end Go.Proofs.YtgahgkddaljmkaaGreatDoor
