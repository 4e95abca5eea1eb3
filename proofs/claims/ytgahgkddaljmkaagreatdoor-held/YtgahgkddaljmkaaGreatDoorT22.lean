/- SmS .. SmK -/
import Derived.Test.YtgahgkddaljmkaaGreatDoorT21
set_option maxRecDepth 100000
set_option maxHeartbeats 4000000
namespace Go.Proofs.YtgahgkddaljmkaaGreatDoor
open Tryz
namespace Sm
def sign (k:Nat):List UInt8:=if k=0 then [43] else if k=1 then [45] else if k=2 then [42] else [47]
end Sm
end Go.Proofs.YtgahgkddaljmkaaGreatDoor
namespace Go.Proofs.YtgahgkddaljmkaaGreatDoor
open Tryz
namespace Ab
namespace Sg
def Fin (hf:Nat) (cd:List (Nat × List Ins)) (Q:Except Nat Ma->Prop) (A:Ma):Prop:=∃ g r,Ma.work hf cd g A=some r/\Q r
def Aft (_hf:Nat) (_cd:List (Nat × List Ins)) (Q:Except Nat Ma->Prop) (P:Ma->Prop) (q:Option (Except Nat Ma)):Prop:=(∃ k,q=some (.error k)/\Q (.error k))\/∃ A,q=some (.ok A)/\P A
def Ex (hf:Nat) (cd:List (Nat × List Ins)) (Q:Except Nat Ma->Prop) (is:List Ins) (A:Ma):Prop:=Aft hf cd Q (Fin hf cd Q) (Ma.zbb hf (cd.map Prod.fst) is A)
def Gv (hf:Nat) (cd:List (Nat × List Ins)) (Q:Except Nat Ma->Prop) (A:Ma):Prop:=∀ g,A.st.length<g->Aft hf cd Q (Fin hf cd Q) (Ma.za1 hf (cd.map Prod.fst) g A)
def Sh (h:List Nd) (st:List Wd) (fns:List Nat):Prop:=(∀ a,Wd.ad a∈st->a<h.length)/\(∀ a∈fns,a<h.length)/\∀ n∈h,inN h.length n=true
theorem Sh.shut{A:Ma}(h:Sh A.h A.st A.fns):shut A=true:=by
 obtain ⟨h1,h2,h3⟩:=h;simp only[Ab.shut,zzv,List.all_eq_true];refine ⟨⟨fun w hw=>?_,fun a ha=>by simpa using h2 a ha⟩,h3⟩;cases w with
 |ad a=>simpa [inW] using h1 a hw
 |mk k b=>rfl
def Res (hf:Nat) (Q:Except Nat Ma->Prop) (h:List Nd) (st:List Wd) (fns:List Nat) (f W F:Nat):Prop:=
 Sh h st fns/\(Q (.error 4)\/(h.map sz).sum+st.length+W<=hf)/\(Q (.error 5)\/F<=f)
variable {nd:Nd}
theorem zDb{n m:Nat}(h:n<=m)(hn:inN n nd=true):inN m nd=true:=by
 cases nd with
 |fwd b=>simp only[inN,decide_eq_true_eq]at hn ⊢;omega
 |data t fs=>simp only[inN,List.all_eq_true,decide_eq_true_eq]at hn ⊢;exact fun x hx=>zyS (hn x hx) h
 |clo t fs=>simp only[inN,List.all_eq_true,decide_eq_true_eq]at hn ⊢;exact fun x hx=>zyS (hn x hx) h
 |num v=>rfl
 |busy=>rfl
variable {hf:Nat} {cd:List (Nat × List Ins)} {Q:Except Nat Ma->Prop} {h:List Nd} {st:List Wd} {fns:List Nat} {f W F:Nat} {nx bl:Int} {is:List Ins}{n:Nd}
theorem Sh.node(s:Sh h st fns)(hn:inN h.length n=true):Sh (h++[n]) st fns:=by
 obtain ⟨h1,h2,h3⟩:=s;have hl:(h++[n]).length=h.length+1:=by simp
 refine ⟨fun a ha=>by have:=h1 a ha;omega,fun a ha=>by have:=h2 a ha;omega,fun m hm=>?_⟩;rw[hl];rcases zzi.1 hm with hm|hm
 ·exact zDb (by omega) (h3 m hm)
 ·rw[zze.1 hm];exact zDb (by omega) hn
theorem Sh.set{n:Nd}(s:Sh h st fns)(c:Nat)(hn:inN h.length n=true):Sh (h.set c n) st fns:=by
 obtain ⟨h1,h2,h3⟩:=s;refine ⟨fun a ha=>by rw[zy6];exact h1 a ha,fun a ha=>by rw[zy6];exact h2 a ha,fun m hm=>?_⟩;rw[zy6];rcases List.mem_or_eq_of_mem_set hm with hm|hm
 ·exact h3 m hm
 ·rw[hm];exact hn
theorem Sh.stack{st':List Wd}(s:Sh h st fns)(hs:∀ a,Wd.ad a∈st'->Wd.ad a∈st\/a<h.length):Sh h st' fns:=
 ⟨fun a ha=>(hs a ha).elim (s.1 a) id,s.2⟩
theorem zEE(h:List Nd)(c:Nat)(n:Nd)(hn:sz n=1):((h.set c n).map sz).sum<=(h.map sz).sum:=by
 induction h generalizing c with
 |nil=>simp
 |cons x t ih=>
  have hx:1<=sz x:=by cases x <;> simp[sz]
  cases c with
  |zero=>simp[hn];omega
  |succ c=>have:=ih c;simp at this ⊢;omega
variable {W':Nat}
theorem Res.less{F':Nat}(R:Res hf Q h st fns f W F)(hw:W'<=W)(hF:F'<=F):Res hf Q h st fns f W' F':=
 ⟨R.1,R.2.1.imp id (fun x=>by omega),R.2.2.imp id (fun x=>by omega)⟩
theorem Res.stack{st':List Wd}{W':Nat}(R:Res hf Q h st fns f W F)(hs:∀ a,Wd.ad a∈st'->Wd.ad a∈st\/a<h.length)(hl:st'.length+W'<=st.length+W):Res hf Q h st' fns f W' F:=
 ⟨R.1.stack hs,R.2.1.imp id (fun x=>by omega),R.2.2⟩
theorem Res.node{n:Nd}{W':Nat}(R:Res hf Q h st fns f W F)(hn:inN h.length n=true)(hw:W'+sz n<=W):Res hf Q (h++[n]) st fns f W' F:=
 ⟨R.1.node hn,R.2.1.imp id (fun x=>by simp;omega),R.2.2⟩
theorem Res.set{n:Nd}(R:Res hf Q h st fns f W F)(c:Nat)(hn:inN h.length n=true)(h1:sz n=1):Res hf Q (h.set c n) st fns f W F:=
 ⟨R.1.set c hn,R.2.1.imp id (fun x=>by have:=zEE h c n h1;omega),R.2.2⟩
theorem Res.zsJ(R:Res hf Q h st fns (f+1) W (F+1)):Res hf Q h st fns f W F:=⟨R.1,R.2.1,R.2.2.imp id (fun x=>by omega)⟩
variable {A:Ma}
theorem zCh{k:Nat}{g:Ma->Option (Except Nat Ma)}{P:Ma->Prop}{F:Nat}(R:Res hf Q A.h A.st A.fns A.fuel k F)(hg:Aft hf cd Q P (g A)):Aft hf cd Q P (ask hf k A g):=by
 unfold ask;split
 ·exact hg
 ·next hn=>
  refine .inl ⟨4,rfl,R.2.1.elim id (fun x=>(hn (zAR R.1.shut x)).elim)⟩
theorem zCa{i:Ins}(R:Res hf Q h st fns f W (F+1))(k:∀ f',f=f'+1->Res hf Q h st fns f' W F->Aft hf cd Q (Ex hf cd Q is) (Ma.step hf (cd.map Prod.fst) ⟨h,st,fns,f',nx,bl⟩ i)):Ex hf cd Q (i::is) ⟨h,st,fns,f,nx,bl⟩:=by
 unfold Ex;rw[Ma.zbb];cases f with
 |zero=>
  rw[if_pos rfl];exact .inl ⟨5,rfl,R.2.2.elim id (fun x=>by omega)⟩
 |succ f=>
  rw[if_neg (by show ¬ f+1=0;omega)];rcases k f rfl R.zsJ with ⟨j,e1,e2⟩|⟨A,e1,e2⟩
  ·show Aft hf cd Q _ (match Ma.step hf (cd.map Prod.fst) ⟨h,st,fns,f,nx,bl⟩ i with|none=>none|some (.error k)=>some (.error k)|some (.ok A2)=>Ma.zbb hf (cd.map Prod.fst) is A2);rw[e1];exact .inl ⟨j,rfl,e2⟩
  ·show Aft hf cd Q _ (match Ma.step hf (cd.map Prod.fst) ⟨h,st,fns,f,nx,bl⟩ i with|none=>none|some (.error k)=>some (.error k)|some (.ok A2)=>Ma.zbb hf (cd.map Prod.fst) is A2);rw[e1];exact e2
theorem zC9(k:Fin hf cd Q A):Ex hf cd Q [] A:=.inr ⟨A,rfl,k⟩
variable {x:Wd}
theorem zCr{i:Ins}{w:Ma->Option Wd}(hi:∀ A:Ma,Ma.step hf (cd.map Prod.fst) A i=A.zjF hf w)(hw:∀ f,w ⟨h,st,fns,f,nx,bl⟩=some x)(hx:∀ a,x=.ad a->a<h.length)(R:Res hf Q h st fns f (W+1) (F+1))(k:∀ f,Res hf Q h (st++[x]) fns f W F->Ex hf cd Q is ⟨h,st++[x],fns,f,nx,bl⟩):Ex hf cd Q (i::is) ⟨h,st,fns,f,nx,bl⟩:=by
 refine zCa R fun f' _ R'=>?_
 rw[hi];unfold Ma.zjF;refine zCh (A:=⟨h,st,fns,f',nx,bl⟩) (R'.less (by omega) (zyN _)) (.inr ⟨_,by simp only[hw];rfl,k f' ?_⟩);exact R'.stack (fun a ha=>by rcases zzi.1 ha with ha|ha;exact .inl ha;exact .inr (hx a (zze.1 ha).symm)) (by simp;omega)
variable {j:Nat}
theorem zCn(hb:0<=bl)(hx:st[bl.toNat+j]?=some x)(R:Res hf Q h st fns f (W+1) (F+1))(k:∀ f,Res hf Q h (st++[x]) fns f W F->Ex hf cd Q is ⟨h,st++[x],fns,f,nx,bl⟩):Ex hf cd Q (.push j::is) ⟨h,st,fns,f,nx,bl⟩:=
 zCr (fun _=>rfl) (fun f=>by unfold Ma.slot;rw[if_pos hb];exact hx) (fun a e=>R.1.1 a (by rw[<-e];exact zy1 hx)) R k
variable {a:Nat}
theorem zDv(hx:fns[j]?=some a)(R:Res hf Q h st fns f (W+1) (F+1))(k:∀ f,Res hf Q h (st++[.ad a]) fns f W F->Ex hf cd Q is ⟨h,st++[.ad a],fns,f,nx,bl⟩):Ex hf cd Q (.zcW j::is) ⟨h,st,fns,f,nx,bl⟩:=
 zCr (w:=fun A=>(A.fns[j]?).map Wd.ad) (fun _=>rfl) (fun f=>by show (fns[j]?).map Wd.ad=_;rw[hx];rfl) (fun b e=>by cases e;exact R.1.2.1 a (zy1 hx)) R k
variable {b:Nat}
theorem zCw(hb:b<=1000000000)(R:Res hf Q h st fns f (W+1) (F+1))(k:∀ f,Res hf Q h (st++[.mk 1 b]) fns f W F->Ex hf cd Q is ⟨h,st++[.mk 1 b],fns,f,nx,bl⟩):Ex hf cd Q (.wait b::is) ⟨h,st,fns,f,nx,bl⟩:=
 zCr (w:=fun _=>some (.mk 1 b)) (fun A=>by show (if b<=1000000000 then _ else _)=_;rw[if_pos hb]) (fun f=>rfl) (fun a e=>by cases e) R k
theorem zDw(hb:b<=1000000000)(R:Res hf Q h st fns f (W+1) (F+1))(k:∀ f,Res hf Q h (st++[.mk 2 b]) fns f W F->Ex hf cd Q is ⟨h,st++[.mk 2 b],fns,f,nx,bl⟩):Ex hf cd Q (.zbF b::is) ⟨h,st,fns,f,nx,bl⟩:=
 zCr (w:=fun _=>some (.mk 2 b)) (fun A=>by show (if b<=1000000000 then _ else _)=_;rw[if_pos hb]) (fun f=>rfl) (fun a e=>by cases e) R k
variable {v:Int}
theorem zEk(R:Res hf Q h st fns f (W+3) (F+1))(k:∀ f,Res hf Q (h++[.num v]) (st++[.ad h.length]) fns f W F->Ex hf cd Q is ⟨h++[.num v],st++[.ad h.length],fns,f,nx,bl⟩):Ex hf cd Q (.num v::is) ⟨h,st,fns,f,nx,bl⟩:=by
 refine zCa R fun f' _ R'=>?_
 rw[Ma.step];unfold Ma.zau;refine zCh (A:=⟨h,st,fns,f',nx,bl⟩) (R'.less (by omega) (zyN _)) (.inr ⟨_,rfl,k f' ?_⟩);exact (R'.node (n:=.num v) (W':=W+1) rfl (by simp[sz])).stack (fun a ha=>by rcases zzi.1 ha with ha|ha;exact .inl ha;cases zze.1 ha;exact .inr (by simp)) (by simp;omega)
theorem zC8(hb:b<=1000000000)(R:Res hf Q h st fns f (W+2) (F+1))(k:∀ f,Res hf Q (h++[.clo b []]) (st++[.ad h.length]) fns f W F->Ex hf cd Q is ⟨h++[.clo b []],st++[.ad h.length],fns,f,nx,bl⟩):Ex hf cd Q (.close b 0::is) ⟨h,st,fns,f,nx,bl⟩:=by
 refine zCa R fun f' _ R'=>?_
 show Aft hf cd Q _ (if b<=1000000000/\0<4096 then _ else _);rw[if_pos ⟨hb,by omega⟩];refine zCh (A:=⟨h,st,fns,f',nx,bl⟩) (R'.less (by omega) (zyN _)) (.inr ⟨⟨h++[.clo b []],st++[.ad h.length],fns,f',nx,bl⟩,?_,k f' ?_⟩)
 ·simp[zlT,zcE,zwL,okA]
 ·exact (R'.node (n:=.clo b []) (W':=W+1) rfl (by simp[sz])).stack (fun a ha=>by rcases zzi.1 ha with ha|ha;exact .inl ha;cases zze.1 ha;exact .inr (by simp)) (by simp;omega)
theorem zCk{S fr ws:List Wd}{c:Nat}(hc:ws.length=c)(R:Res hf Q h (S++fr++ws) fns f W (F+1))(k:∀ f,Res hf Q h (S++ws) fns f W F->Ex hf cd Q is ⟨h,S++ws,fns,f,nx,S.length⟩):Ex hf cd Q (.zci c::is) ⟨h,S++fr++ws,fns,f,nx,S.length⟩:=by
 refine zCa R fun f' _ R'=>.inr ⟨⟨h,S++ws,fns,f',nx,S.length⟩,?_,k f' (R'.stack (fun a ha=>by simp at ha ⊢;rcases ha with ha|ha <;> simp[ha]) (by simp))⟩
 subst hc;show Option.map _ (Ma.zci ws.length ⟨h,S++fr++ws,fns,f',nx,S.length⟩)=_;unfold Ma.zci;rw[if_pos ⟨by simp,by simp⟩];simp only[zzP,zyP,zAb,Ma.mk.injEq,and_true,true_and];have e1:(S++fr++ws).take ((S.length:Int)).toNat=S:=by simp
 have e2:(S++fr++ws).drop ((S++fr++ws).length-ws.length)=ws:=by
  rw[show (S++fr++ws).length-ws.length=(S++fr).length by simp;omega];exact List.drop_left
 rw[e1,e2]
theorem zCR(hv:h[a]?=some (.num v)):Ma.zdW ⟨h,st++[.ad a],fns,f,nx,bl⟩ 0=some (.ok v):=by
 unfold Ma.zdW;rw[if_pos (by simp)];simp[hv]
theorem zDu(hv:h[a]?=some (.num v))(R:Res hf Q h (st++[.ad a]) fns f W (F+1))(k:∀ f,Res hf Q h (st++[.ad a]) fns f W F->Ex hf cd Q is ⟨h,st++[.ad a],fns,f,nx,bl⟩):Ex hf cd Q (.zbX::is) ⟨h,st++[.ad a],fns,f,nx,bl⟩:=
 zCa R fun f' _ R'=>.inr ⟨_,by show Option.map _ (Ma.zdW _ 0)=_;rw[zCR hv];rfl,k f' R'⟩
def opV (k:Nat) (x y:Int):Option Int:=
 if k=0 then some (IntKind.i64.wrap (x+y)) else
 if k=1 then some (IntKind.i64.wrap (x-y)) else
 if k=2 then some (IntKind.i64.wrap (x*y)) else
 if y=0 then none else some (IntKind.i64.wrap (Int.tdiv x y))
theorem zDt{x y:Int}(hj:j<4)(hx:h[a]?=some (.num x))(hy:h[b]?=some (.num y))(R:Res hf Q h (st++[.ad a,.ad b]) fns f (W+1) (F+1))(k3:opV j x y=none->Q (.error 3))(k:∀ n,opV j x y=some n->∀ f,Res hf Q (h++[.num n]) (st++[.ad h.length]) fns f W F->Ex hf cd Q is ⟨h++[.num n],st++[.ad h.length],fns,f,nx,bl⟩):Ex hf cd Q (.comp ⟨(Sm.sign j).toArray⟩::is) ⟨h,st++[.ad a,.ad b],fns,f,nx,bl⟩:=by
 refine zCa R fun f' _ R'=>?_
 show Aft hf cd Q _ (Ma.compute hf _ _);unfold Ma.compute;have e0:Ma.zdW ⟨h,st++[.ad a,.ad b],fns,f',nx,bl⟩ 0=some (.ok y):=by
  have:=zCR (st:=st++[.ad a]) (fns:=fns) (f:=f') (nx:=nx) (bl:=bl) hy
  rwa [zzk]at this
 have e1:Ma.zdW ⟨h,st++[.ad a,.ad b],fns,f',nx,bl⟩ 1=some (.ok x):=by
  unfold Ma.zdW;rw[if_pos (by simp)];simp[hx]
 rw[e0];simp only;rw[e1];simp only;have ec:zcE (st++[.ad a,.ad b]) 2=st:=by simp[zcE]
 rw[ec];have push:∀ n,opV j x y=some n->Aft hf cd Q (Ex hf cd Q is) (Ma.zau hf n ⟨h,st,fns,f',nx,bl⟩):=fun n hn=>by
  have R1:Res hf Q h st fns f' (W+3) F:=R'.stack (fun c hc=>.inl (List.mem_append_left _ hc)) (by simp;omega);unfold Ma.zau;refine zCh (A:=⟨h,st,fns,f',nx,bl⟩) (R1.less (by omega) (zyN _)) (.inr ⟨_,rfl,k n hn f' ?_⟩);exact (R1.node (n:=.num n) (W':=W+1) rfl (by simp[sz])).stack (fun a ha=>by rcases zzi.1 ha with ha|ha;exact .inl ha;cases zze.1 ha;exact .inr (by simp)) (by simp;omega)
 obtain rfl|rfl|rfl|rfl:j=0\/j=1\/j=2\/j=3:=by omega
 ·exact push _ rfl
 ·exact push _ rfl
 ·exact push _ rfl
 ·by_cases aT:y=0
  ·refine .inl ⟨3,?_,k3 (by simp[opV,aT])⟩;show (if y=0 then _ else _)=_;rw[if_pos aT]
  ·have:=push (IntKind.i64.wrap (Int.tdiv x y)) (by simp[opV,aT]);show Aft hf cd Q _ (if y=0 then _ else _);rw[if_neg aT];exact this
theorem zCE(hn:h[a]?=some nd)(hf:zaV nd=false):can h a=a:=zdc hn hf
theorem zGM(a:Nat):zcE (st++[.ad a]) 1=st:=by simp[zcE]
def isV:Nd->Bool
 |.num _=>true
 |.data _ _=>true
 |_=>false
theorem zCq(hv:h[a]?=some nd)(R:Res hf Q h (st++[.ad a]) fns f W (F+1))(k:∀ f,Res hf Q h (st++[.ad a]) fns f W F->Gv hf cd Q ⟨h,st++[.ad a],fns,f,nx,bl⟩)(hd:isV nd=true:=by rfl):Ex hf cd Q [.enter] ⟨h,st++[.ad a],fns,f,nx,bl⟩:=by
 refine zCa R fun f' _ R'=>?_
 show Aft hf cd Q _ (Ma.enter hf _ _);unfold Ma.enter;rw[show (⟨h,st++[.ad a],fns,f',nx,bl⟩:Ma).st.getLast?=some (.ad a) by simp];simp only;rw[zCE hv (by cases nd <;> first|rfl|cases hd),hv,zGM];rcases k f' R' ((st++[Wd.ad a]).length+1) (Nat.lt_succ_self _) with ⟨j,e1,e2⟩|⟨A,e1,e2⟩
 ·cases nd <;> first|exact .inl ⟨j,e1,e2⟩|cases hd
 ·cases nd <;> first|exact .inr ⟨A,e1,zC9 e2⟩|cases hd
theorem zDh{n:Nat}(hv:h[a]?=some (.clo b []))(hb:(cd.map Prod.fst)[b]?=some (n+1))(R:Res hf Q h (st++[.ad a]) fns f W (F+1))(k:∀ f,Res hf Q h (st++[.ad a]) fns f W F->Gv hf cd Q ⟨h,st++[.ad a],fns,f,nx,bl⟩):Ex hf cd Q [.enter] ⟨h,st++[.ad a],fns,f,nx,bl⟩:=by
 refine zCa R fun f' _ R'=>?_
 show Aft hf cd Q _ (Ma.enter hf _ _);unfold Ma.enter;rw[show (⟨h,st++[.ad a],fns,f',nx,bl⟩:Ma).st.getLast?=some (.ad a) by simp];simp only;rw[zCE hv rfl,hv,zGM];simp only;rw[hb];simp only;rw[if_neg (by simp),if_pos (by simp)];rcases k f' R' ((st++[Wd.ad a]).length+1) (Nat.lt_succ_self _) with ⟨j,e1,e2⟩|⟨A,e1,e2⟩
 ·exact .inl ⟨j,e1,e2⟩
 ·exact .inr ⟨A,e1,zC9 e2⟩
theorem zCV(hv:h[a]?=some (.clo b []))(hb:(cd.map Prod.fst)[b]?=some 0)(R:Res hf Q h (st++[.ad a]) fns f (W+1) (F+1))(k:∀ f,Res hf Q (h.set a .busy) (st++[.ad a,.mk 0 0]) fns f W F->Fin hf cd Q ⟨h.set a .busy,st++[.ad a,.mk 0 0],fns,f,b,bl⟩):Ex hf cd Q [.enter] ⟨h,st++[.ad a],fns,f,nx,bl⟩:=by
 refine zCa R fun f' _ R'=>?_
 show Aft hf cd Q _ (Ma.enter hf _ _);unfold Ma.enter;rw[show (⟨h,st++[.ad a],fns,f',nx,bl⟩:Ma).st.getLast?=some (.ad a) by simp];simp only;rw[zCE hv rfl,hv,zGM];simp only;rw[hb];simp only;rw[if_pos (by simp)];unfold Ma.zdy;refine zCh (A:=⟨h,st++[.ad a],fns,f',nx,bl⟩) (R'.less (show 1+([]:List Nat).length<=W+1 by simp) (zyN _)) ?_;refine .inr ⟨⟨h.set a .busy,st++[.ad a,.mk 0 0],fns,f',b,bl⟩,?_,zC9 (k f' ?_)⟩
 ·simp[okA]
 ·exact (R'.set a rfl rfl).stack (fun c hc=>by simp at hc ⊢;rcases hc with hc|hc <;> simp[hc]) (by simp;omega)
theorem zEm{c v:Nat}(hc:h[c]?=some .busy)(hv:h[v]?=some nd)(k:Gv hf cd Q ⟨h.set c (.fwd v),st++[.ad v],fns,f,nx,bl⟩)(hd:isV nd=true:=by rfl):Gv hf cd Q ⟨h,st++[.ad c,.mk 0 0,.ad v],fns,f,nx,bl⟩:=fun g hg=>by
 cases g with
 |zero=>exact absurd hg (by omega)
 |succ g=>
  have hl:(st++[Wd.ad c,.mk 0 0,.ad v]).length=st.length+3:=by simp
  have JI:st.length+3<g+1:=by rw[<-hl];exact hg
  rw[Ma.za1,if_neg (by show ¬ (st++[Wd.ad c,.mk 0 0,.ad v]).length<=1;omega)];have e2:(st++[Wd.ad c,.mk 0 0,.ad v])[(st++[Wd.ad c,.mk 0 0,.ad v]).length-2]?=some (.mk 0 0):=by rw[hl];simp
  have e1:(st++[Wd.ad c,.mk 0 0,.ad v])[(st++[Wd.ad c,.mk 0 0,.ad v]).length-1]?=some (.ad v):=by rw[hl];simp
  have e3:(st++[Wd.ad c,.mk 0 0,.ad v])[(st++[Wd.ad c,.mk 0 0,.ad v]).length-3]?=some (.ad c):=by rw[hl];simp
  have ec:zcE (st++[Wd.ad c,.mk 0 0,.ad v]) 3=st:=by simp[zcE]
  have kk:=k g (by show (st++[Wd.ad v]).length<g;simp;omega);cases nd
  all_goals
   first
   |simp only[e2,e1,e3,hc,hv]
    rw[if_neg (by omega),if_pos trivial,if_pos (by rw[hl];omega),ec];exact kk
   |cases hd
theorem zCG{v:Nat}(hb:b<1000000000)(k:Fin hf cd Q ⟨h,st++[.ad v],fns,f,b,bl⟩):Gv hf cd Q ⟨h,st++[.mk 1 b,.ad v],fns,f,nx,bl⟩:=fun g hg=>by
 cases g with
 |zero=>exact absurd hg (by omega)
 |succ g=>
  have hl:(st++[Wd.mk 1 b,.ad v]).length=st.length+2:=by simp
  rw[Ma.za1,if_neg (by show ¬ (st++[Wd.mk 1 b,.ad v]).length<=1;omega)];have e2:(st++[Wd.mk 1 b,.ad v])[(st++[Wd.mk 1 b,.ad v]).length-2]?=some (.mk 1 b):=by rw[hl];simp
  have e1:(st++[Wd.mk 1 b,.ad v])[(st++[Wd.mk 1 b,.ad v]).length-1]?=some (.ad v):=by rw[hl];simp
  simp only[e2,e1];rw[if_neg (by omega),if_neg (by omega),if_pos trivial];have ec:zcE (st++[Wd.mk 1 b,.ad v]) 2=st:=by simp[zcE]
  rw[ec];exact .inr ⟨_,rfl,k⟩
theorem zGA{y:Wd}{F:Nat}(hv:h[a]?=some (.clo b []))(hb:(cd.map Prod.fst)[b]?=some 2)(R:Res hf Q h (st++[x,y,.mk 2 2,.ad a]) fns f 0 F)(k:Fin hf cd Q ⟨h,st++[x,y],fns,f,b,bl⟩):Gv hf cd Q ⟨h,st++[x,y,.mk 2 2,.ad a],fns,f,nx,bl⟩:=fun g hg=>by
 cases g with
 |zero=>exact absurd hg (by omega)
 |succ g=>
  have hl:(st++[x,y,.mk 2 2,.ad a]).length=st.length+4:=by simp
  rw[Ma.za1,if_neg (by show ¬ (st++[x,y,.mk 2 2,.ad a]).length<=1;omega)];have e2:(st++[x,y,.mk 2 2,.ad a])[(st++[x,y,.mk 2 2,.ad a]).length-2]?=some (.mk 2 2):=by rw[hl];simp
  simp only[e2];rw[if_neg (by omega),if_neg (by omega),if_neg (by omega),if_pos trivial];have ea:Ma.za5 hf (cd.map Prod.fst) 2 ⟨h,st++[x,y,.mk 2 2,.ad a],fns,f,nx,bl⟩=some (.ok (true,⟨h,st++[x,y],fns,f,b,bl⟩))\/(Ma.za5 hf (cd.map Prod.fst) 2 ⟨h,st++[x,y,.mk 2 2,.ad a],fns,f,nx,bl⟩=some (.error 4)/\Q (.error 4)):=by
   unfold Ma.za5;rw[show (⟨h,st++[x,y,.mk 2 2,.ad a],fns,f,nx,bl⟩:Ma).st.getLast?=some (.ad a) by simp];simp only[hv,hb];rw[if_neg (by simp),if_neg (by simp),if_neg (by omega)];unfold Ma.call ask;by_cases aJ:Fits hf ⟨h,st++[x,y,.mk 2 2,.ad a],fns,f,nx,bl⟩ ([]:List Nat).length
   ·rw[if_pos aJ];left;have et:(st++[x,y,.mk 2 2,.ad a]).take (st.length+2)=st++[x,y]:=by
     rw[List.take_append,zy9 (by omega),Nat.add_sub_cancel_left];rfl
    simp[okA,leave,zcE,et]
   ·rw[if_neg aJ];exact .inr ⟨rfl,R.2.1.elim id (fun x=>(aJ (zAR R.1.shut x)).elim)⟩
  rcases ea with ea|⟨ea,q4⟩
  ·rw[ea];exact .inr ⟨_,rfl,k⟩
  ·rw[ea];exact .inl ⟨4,rfl,q4⟩
theorem zER{v:Nat}(k:Q (.ok ⟨h,[.ad v],fns,f,-1,bl⟩)):Gv hf cd Q ⟨h,[.ad v],fns,f,nx,bl⟩:=fun g hg=>by
 cases g with
 |zero=>exact absurd hg (by omega)
 |succ g=>
  rw[Ma.za1,if_pos (by simp)];exact .inr ⟨_,rfl,1,_,by rw[Ma.work,if_pos rfl];rfl,k⟩
theorem zB4{n:Nat}{c:List Ins}(hb:cd[b]?=some (n,c))(k:Ex hf cd Q c ⟨h,st,fns,f,b,(st.length:Int)-n⟩):Fin hf cd Q ⟨h,st,fns,f,b,bl⟩:=by
 rcases k with ⟨j,e1,e2⟩|⟨A,e1,g,r,e2,e3⟩
 ·refine ⟨1,.error j,?_,e2⟩;rw[Ma.work,if_neg (by simp),if_neg (by simp)];simp only[zy2,hb];rw[e1]
 ·refine ⟨g+1,r,?_,e3⟩;rw[Ma.work,if_neg (by simp),if_neg (by simp)];simp only[zy2,hb];rw[e1];exact e2
end Sg
end Ab
end Go.Proofs.YtgahgkddaljmkaaGreatDoor
namespace Go.Proofs.YtgahgkddaljmkaaGreatDoor
open Tryz
namespace Ab
namespace Sg
open Cp
variable {N n:Nat} {Kw:List Nm}
theorem zCN(T l:List Wd)(i:Nat):(T++l)[((T.length:Int)).toNat+i]?=l[i]?:=by rw[zy2,zy3 (by omega),Nat.add_sub_cancel_left]
end Sg
end Ab
end Go.Proofs.YtgahgkddaljmkaaGreatDoor
