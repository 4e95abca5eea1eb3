/- SmS .. SmH -/
import Derived.Test.YtgahgkddaljmkaaGreatDoorR20
set_option maxRecDepth 100000
set_option maxHeartbeats 4000000
namespace Go.Proofs.YtgahgkddaljmkaaGreatDoor
open Tryz
inductive Sm where
 |num (n:Nat)
 |op (Ij k:Nat) (a b:Sm)
namespace Sm
def val:Sm->Option Int
 |.num n=>some n
 |.op _ k a b=>
  match a.val,b.val with
  |some x,some y=>
   if k=0 then some (IntKind.i64.wrap (x+y)) else
   if k=1 then some (IntKind.i64.wrap (x-y)) else
   if k=2 then some (IntKind.i64.wrap (x*y)) else
   if y=0 then none else some (IntKind.i64.wrap (Int.tdiv x y))
  |_,_=>none
def sign (k:Nat):List UInt8:=if k=0 then [43] else if k=1 then [45] else if k=2 then [42] else [47]
def name (k:Nat):List UInt8:=if k=0 then [97,100,100] else if k=1 then [115,117,98] else if k=2 then [109,117,108] else [100,105,118]
def ct:Sm->Nat
 |.num _=>1
 |.op _ _ a b=>a.ct+b.ct+1
end Sm
end Go.Proofs.YtgahgkddaljmkaaGreatDoor
namespace Go.Proofs.YtgahgkddaljmkaaGreatDoor
open Tryz
namespace Ab
namespace Sg
def Fin (hf:Nat) (cd:List (Nat × List Ins)) (Q:Except Nat Ma->Prop) (A:Ma):Prop:=∃ g r,Ma.work hf cd g A=some r/\Q r
def Aft (_hf:Nat) (_cd:List (Nat × List Ins)) (Q:Except Nat Ma->Prop) (P:Ma->Prop) (q:Option (Except Nat Ma)):Prop:=(∃ k,q=some (.error k)/\Q (.error k))\/∃ A,q=some (.ok A)/\P A
def Ex (hf:Nat) (cd:List (Nat × List Ins)) (Q:Except Nat Ma->Prop) (is:List Ins) (A:Ma):Prop:=Aft hf cd Q (Fin hf cd Q) (Ma.zbb hf (cd.map Prod.fst) is A)
def Gv (hf:Nat) (cd:List (Nat × List Ins)) (Q:Except Nat Ma->Prop) (A:Ma):Prop:=∀ g,A.st.length<g->Aft hf cd Q (Fin hf cd Q) (Ma.za1 hf (cd.map Prod.fst) g A)
def Sh (h:List Nd) (st:List Wd) (fns:List Nat):Prop:=(∀ a,Wd.ad a∈st->a<h.length)/\(∀ a∈fns,a<h.length)/\∀ n∈h,inN h.length n=true
theorem Sh.shut{A:Ma}(h:Sh A.h A.st A.fns):shut A=true:=by
 obtain ⟨h1,h2,h3⟩:=h;simp only[Ab.shut,zzv,List.all_eq_true];refine ⟨⟨fun w hw=>?_,fun a ha=>by simpa using h2 a ha⟩,h3⟩;cases w with
 |ad a=>simpa [inW] using h1 a hw
 |mk k b=>rfl
def Res (hf:Nat) (Q:Except Nat Ma->Prop) (h:List Nd) (st:List Wd) (fns:List Nat) (f W F:Nat):Prop:=
 Sh h st fns/\(Q (.error 4)\/(h.map sz).sum+st.length+W<=hf)/\(Q (.error 5)\/F<=f)
variable {n m:Nat}{nd:Nd}
theorem zDb(h:n<=m)(hn:inN n nd=true):inN m nd=true:=by
 cases nd with
 |fwd b=>simp only[inN,decide_eq_true_eq]at hn ⊢;omega
 |data t fs=>simp only[inN,List.all_eq_true,decide_eq_true_eq]at hn ⊢;exact fun x hx=>zyS (hn x hx) h
 |clo t fs=>simp only[inN,List.all_eq_true,decide_eq_true_eq]at hn ⊢;exact fun x hx=>zyS (hn x hx) h
 |num v=>rfl
 |busy=>rfl
variable {hf:Nat} {cd:List (Nat × List Ins)} {Q:Except Nat Ma->Prop} {h:List Nd} {st:List Wd} {fns:List Nat} {f W F:Nat} {nx bl:Int} {is:List Ins}
theorem Sh.node{n:Nd}(s:Sh h st fns)(hn:inN h.length n=true):Sh (h++[n]) st fns:=by
 obtain ⟨h1,h2,h3⟩:=s;have hl:(h++[n]).length=h.length+1:=by simp
 refine ⟨fun a ha=>by have:=h1 a ha;omega,fun a ha=>by have:=h2 a ha;omega,fun m hm=>?_⟩;rw[hl];rcases zzi.1 hm with hm|hm
 ·exact zDb (by omega) (h3 m hm)
 ·rw[zze.1 hm];exact zDb (by omega) hn
theorem Sh.set{n:Nd}(s:Sh h st fns)(c:Nat)(hn:inN h.length n=true):Sh (h.set c n) st fns:=by
 obtain ⟨h1,h2,h3⟩:=s;refine ⟨fun a ha=>by rw[zy6];exact h1 a ha,fun a ha=>by rw[zy6];exact h2 a ha,fun m hm=>?_⟩;rw[zy6];rcases List.mem_or_eq_of_mem_set hm with hm|hm
 ·exact h3 m hm
 ·rw[hm];exact hn
theorem Sh.stack{st':List Wd}(s:Sh h st fns)(hs:∀ a,Wd.ad a∈st'->Wd.ad a∈st\/a<h.length):Sh h st' fns:=
 ⟨fun a ha=>(hs a ha).elim (s.1 a) id,s.2⟩
theorem zEE(h:List Nd)(c:Nat)(n:Nd)(hn:sz n=1):((h.set c n).map sz).sum<=(h.map sz).sum:=by
 induction h generalizing c with
 |nil=>simp
 |cons x t ih=>
  have hx:1<=sz x:=by cases x <;> simp[sz]
  cases c with
  |zero=>simp[hn];omega
  |succ c=>have:=ih c;simp at this ⊢;omega
variable {W':Nat}
theorem Res.less{F':Nat}(R:Res hf Q h st fns f W F)(hw:W'<=W)(hF:F'<=F):Res hf Q h st fns f W' F':=
 ⟨R.1,R.2.1.imp id (fun x=>by omega),R.2.2.imp id (fun x=>by omega)⟩
theorem Res.stack{st':List Wd}{W':Nat}(R:Res hf Q h st fns f W F)(hs:∀ a,Wd.ad a∈st'->Wd.ad a∈st\/a<h.length)(hl:st'.length+W'<=st.length+W):Res hf Q h st' fns f W' F:=
 ⟨R.1.stack hs,R.2.1.imp id (fun x=>by omega),R.2.2⟩
theorem Res.node{n:Nd}{W':Nat}(R:Res hf Q h st fns f W F)(hn:inN h.length n=true)(hw:W'+sz n<=W):Res hf Q (h++[n]) st fns f W' F:=
 ⟨R.1.node hn,R.2.1.imp id (fun x=>by simp;omega),R.2.2⟩
theorem Res.set{n:Nd}(R:Res hf Q h st fns f W F)(c:Nat)(hn:inN h.length n=true)(h1:sz n=1):Res hf Q (h.set c n) st fns f W F:=
 ⟨R.1.set c hn,R.2.1.imp id (fun x=>by have:=zEE h c n h1;omega),R.2.2⟩
theorem Res.zsJ(R:Res hf Q h st fns (f+1) W (F+1)):Res hf Q h st fns f W F:=⟨R.1,R.2.1,R.2.2.imp id (fun x=>by omega)⟩
variable {k:Nat}{A:Ma}
theorem zCh{g:Ma->Option (Except Nat Ma)}{P:Ma->Prop}{F:Nat}(R:Res hf Q A.h A.st A.fns A.fuel k F)(hg:Aft hf cd Q P (g A)):Aft hf cd Q P (ask hf k A g):=by
 unfold ask;split
 ·exact hg
 ·next hn=>
  refine .inl ⟨4,rfl,R.2.1.elim id (fun x=>(hn (zAR R.1.shut x)).elim)⟩
theorem zCa{i:Ins}(R:Res hf Q h st fns f W (F+1))(k:∀ f',f=f'+1->Res hf Q h st fns f' W F->Aft hf cd Q (Ex hf cd Q is) (Ma.step hf (cd.map Prod.fst) ⟨h,st,fns,f',nx,bl⟩ i)):Ex hf cd Q (i::is) ⟨h,st,fns,f,nx,bl⟩:=by
 unfold Ex;rw[Ma.zbb];cases f with
 |zero=>
  rw[if_pos rfl];exact .inl ⟨5,rfl,R.2.2.elim id (fun x=>by omega)⟩
 |succ f=>
  rw[if_neg (by show ¬ f+1=0;omega)];rcases k f rfl R.zsJ with ⟨j,e1,e2⟩|⟨A,e1,e2⟩
  ·show Aft hf cd Q _ (match Ma.step hf (cd.map Prod.fst) ⟨h,st,fns,f,nx,bl⟩ i with|none=>none|some (.error k)=>some (.error k)|some (.ok A2)=>Ma.zbb hf (cd.map Prod.fst) is A2);rw[e1];exact .inl ⟨j,rfl,e2⟩
  ·show Aft hf cd Q _ (match Ma.step hf (cd.map Prod.fst) ⟨h,st,fns,f,nx,bl⟩ i with|none=>none|some (.error k)=>some (.error k)|some (.ok A2)=>Ma.zbb hf (cd.map Prod.fst) is A2);rw[e1];exact e2
theorem zC9(k:Fin hf cd Q A):Ex hf cd Q [] A:=.inr ⟨A,rfl,k⟩
theorem zCr{i:Ins}{w:Ma->Option Wd}{x:Wd}(hi:∀ A:Ma,Ma.step hf (cd.map Prod.fst) A i=A.zjF hf w)(hw:∀ f,w ⟨h,st,fns,f,nx,bl⟩=some x)(hx:∀ a,x=.ad a->a<h.length)(R:Res hf Q h st fns f (W+1) (F+1))(k:∀ f,Res hf Q h (st++[x]) fns f W F->Ex hf cd Q is ⟨h,st++[x],fns,f,nx,bl⟩):Ex hf cd Q (i::is) ⟨h,st,fns,f,nx,bl⟩:=by
 refine zCa R fun f' _ R'=>?_
 rw[hi];unfold Ma.zjF;refine zCh (A:=⟨h,st,fns,f',nx,bl⟩) (R'.less (by omega) (zyN _)) (.inr ⟨_,by simp only[hw];rfl,k f' ?_⟩);exact R'.stack (fun a ha=>by rcases zzi.1 ha with ha|ha;exact .inl ha;exact .inr (hx a (zze.1 ha).symm)) (by simp;omega)
variable {j:Nat}
theorem zCn{x:Wd}(hb:0<=bl)(hx:st[bl.toNat+j]?=some x)(R:Res hf Q h st fns f (W+1) (F+1))(k:∀ f,Res hf Q h (st++[x]) fns f W F->Ex hf cd Q is ⟨h,st++[x],fns,f,nx,bl⟩):Ex hf cd Q (.push j::is) ⟨h,st,fns,f,nx,bl⟩:=
 zCr (fun _=>rfl) (fun f=>by unfold Ma.slot;rw[if_pos hb];exact hx) (fun a e=>R.1.1 a (by rw[<-e];exact zy1 hx)) R k
variable {a:Nat}
theorem zDv(hx:fns[j]?=some a)(R:Res hf Q h st fns f (W+1) (F+1))(k:∀ f,Res hf Q h (st++[.ad a]) fns f W F->Ex hf cd Q is ⟨h,st++[.ad a],fns,f,nx,bl⟩):Ex hf cd Q (.zcW j::is) ⟨h,st,fns,f,nx,bl⟩:=
 zCr (w:=fun A=>(A.fns[j]?).map Wd.ad) (fun _=>rfl) (fun f=>by show (fns[j]?).map Wd.ad=_;rw[hx];rfl) (fun b e=>by cases e;exact R.1.2.1 a (zy1 hx)) R k
variable {b:Nat}
theorem zCw(hb:b<=1000000000)(R:Res hf Q h st fns f (W+1) (F+1))(k:∀ f,Res hf Q h (st++[.mk 1 b]) fns f W F->Ex hf cd Q is ⟨h,st++[.mk 1 b],fns,f,nx,bl⟩):Ex hf cd Q (.wait b::is) ⟨h,st,fns,f,nx,bl⟩:=
 zCr (w:=fun _=>some (.mk 1 b)) (fun A=>by show (if b<=1000000000 then _ else _)=_;rw[if_pos hb]) (fun f=>rfl) (fun a e=>by cases e) R k
theorem zDw(hb:b<=1000000000)(R:Res hf Q h st fns f (W+1) (F+1))(k:∀ f,Res hf Q h (st++[.mk 2 b]) fns f W F->Ex hf cd Q is ⟨h,st++[.mk 2 b],fns,f,nx,bl⟩):Ex hf cd Q (.zbF b::is) ⟨h,st,fns,f,nx,bl⟩:=
 zCr (w:=fun _=>some (.mk 2 b)) (fun A=>by show (if b<=1000000000 then _ else _)=_;rw[if_pos hb]) (fun f=>rfl) (fun a e=>by cases e) R k
variable {v:Int}
theorem zEk(R:Res hf Q h st fns f (W+3) (F+1))(k:∀ f,Res hf Q (h++[.num v]) (st++[.ad h.length]) fns f W F->Ex hf cd Q is ⟨h++[.num v],st++[.ad h.length],fns,f,nx,bl⟩):Ex hf cd Q (.num v::is) ⟨h,st,fns,f,nx,bl⟩:=by
 refine zCa R fun f' _ R'=>?_
 rw[Ma.step];unfold Ma.zau;refine zCh (A:=⟨h,st,fns,f',nx,bl⟩) (R'.less (by omega) (zyN _)) (.inr ⟨_,rfl,k f' ?_⟩);exact (R'.node (n:=.num v) (W':=W+1) rfl (by simp[sz])).stack (fun a ha=>by rcases zzi.1 ha with ha|ha;exact .inl ha;cases zze.1 ha;exact .inr (by simp)) (by simp;omega)
theorem zC8(hb:b<=1000000000)(R:Res hf Q h st fns f (W+2) (F+1))(k:∀ f,Res hf Q (h++[.clo b []]) (st++[.ad h.length]) fns f W F->Ex hf cd Q is ⟨h++[.clo b []],st++[.ad h.length],fns,f,nx,bl⟩):Ex hf cd Q (.close b 0::is) ⟨h,st,fns,f,nx,bl⟩:=by
 refine zCa R fun f' _ R'=>?_
 show Aft hf cd Q _ (if b<=1000000000/\0<4096 then _ else _);rw[if_pos ⟨hb,by omega⟩];refine zCh (A:=⟨h,st,fns,f',nx,bl⟩) (R'.less (by omega) (zyN _)) (.inr ⟨⟨h++[.clo b []],st++[.ad h.length],fns,f',nx,bl⟩,?_,k f' ?_⟩)
 ·simp[zlT,zcE,zwL,okA]
 ·exact (R'.node (n:=.clo b []) (W':=W+1) rfl (by simp[sz])).stack (fun a ha=>by rcases zzi.1 ha with ha|ha;exact .inl ha;cases zze.1 ha;exact .inr (by simp)) (by simp;omega)
variable {c:Nat}
theorem zCk{S fr ws:List Wd}(hc:ws.length=c)(R:Res hf Q h (S++fr++ws) fns f W (F+1))(k:∀ f,Res hf Q h (S++ws) fns f W F->Ex hf cd Q is ⟨h,S++ws,fns,f,nx,S.length⟩):Ex hf cd Q (.zci c::is) ⟨h,S++fr++ws,fns,f,nx,S.length⟩:=by
 refine zCa R fun f' _ R'=>.inr ⟨⟨h,S++ws,fns,f',nx,S.length⟩,?_,k f' (R'.stack (fun a ha=>by simp at ha ⊢;rcases ha with ha|ha <;> simp[ha]) (by simp))⟩
 subst hc;show Option.map _ (Ma.zci ws.length ⟨h,S++fr++ws,fns,f',nx,S.length⟩)=_;unfold Ma.zci;rw[if_pos ⟨by simp,by simp⟩];simp only[zzP,zyP,zAb,Ma.mk.injEq,and_true,true_and];have e1:(S++fr++ws).take ((S.length:Int)).toNat=S:=by simp
 have e2:(S++fr++ws).drop ((S++fr++ws).length-ws.length)=ws:=by
  rw[show (S++fr++ws).length-ws.length=(S++fr).length by simp;omega];exact List.drop_left
 rw[e1,e2]
theorem zCR(hv:h[a]?=some (.num v)):Ma.zdW ⟨h,st++[.ad a],fns,f,nx,bl⟩ 0=some (.ok v):=by
 unfold Ma.zdW;rw[if_pos (by simp)];simp[hv]
theorem zDu(hv:h[a]?=some (.num v))(R:Res hf Q h (st++[.ad a]) fns f W (F+1))(k:∀ f,Res hf Q h (st++[.ad a]) fns f W F->Ex hf cd Q is ⟨h,st++[.ad a],fns,f,nx,bl⟩):Ex hf cd Q (.zbX::is) ⟨h,st++[.ad a],fns,f,nx,bl⟩:=
 zCa R fun f' _ R'=>.inr ⟨_,by show Option.map _ (Ma.zdW _ 0)=_;rw[zCR hv];rfl,k f' R'⟩
theorem zEs(R:Res hf Q h st fns f W (F+1))(k:∀ f,Res hf Q h st fns f W F->Fin hf cd Q ⟨h,st,fns,f,b,bl⟩):Ex hf cd Q [.jump b] ⟨h,st,fns,f,nx,bl⟩:=
 zCa R fun f' _ R'=>.inr ⟨_,rfl,zC9 (k f' R')⟩
def opV (k:Nat) (x y:Int):Option Int:=
 if k=0 then some (IntKind.i64.wrap (x+y)) else
 if k=1 then some (IntKind.i64.wrap (x-y)) else
 if k=2 then some (IntKind.i64.wrap (x*y)) else
 if y=0 then none else some (IntKind.i64.wrap (Int.tdiv x y))
theorem zDt{x y:Int}(hj:j<4)(hx:h[a]?=some (.num x))(hy:h[b]?=some (.num y))(R:Res hf Q h (st++[.ad a,.ad b]) fns f (W+1) (F+1))(k3:opV j x y=none->Q (.error 3))(k:∀ n,opV j x y=some n->∀ f,Res hf Q (h++[.num n]) (st++[.ad h.length]) fns f W F->Ex hf cd Q is ⟨h++[.num n],st++[.ad h.length],fns,f,nx,bl⟩):Ex hf cd Q (.comp ⟨(Sm.sign j).toArray⟩::is) ⟨h,st++[.ad a,.ad b],fns,f,nx,bl⟩:=by
 refine zCa R fun f' _ R'=>?_
 show Aft hf cd Q _ (Ma.compute hf _ _);unfold Ma.compute;have e0:Ma.zdW ⟨h,st++[.ad a,.ad b],fns,f',nx,bl⟩ 0=some (.ok y):=by
  have:=zCR (st:=st++[.ad a]) (fns:=fns) (f:=f') (nx:=nx) (bl:=bl) hy
  rwa [zzk]at this
 have e1:Ma.zdW ⟨h,st++[.ad a,.ad b],fns,f',nx,bl⟩ 1=some (.ok x):=by
  unfold Ma.zdW;rw[if_pos (by simp)];simp[hx]
 rw[e0];simp only;rw[e1];simp only;have ec:zcE (st++[.ad a,.ad b]) 2=st:=by simp[zcE]
 rw[ec];have push:∀ n,opV j x y=some n->Aft hf cd Q (Ex hf cd Q is) (Ma.zau hf n ⟨h,st,fns,f',nx,bl⟩):=fun n hn=>by
  have R1:Res hf Q h st fns f' (W+3) F:=R'.stack (fun c hc=>.inl (List.mem_append_left _ hc)) (by simp;omega);unfold Ma.zau;refine zCh (A:=⟨h,st,fns,f',nx,bl⟩) (R1.less (by omega) (zyN _)) (.inr ⟨_,rfl,k n hn f' ?_⟩);exact (R1.node (n:=.num n) (W':=W+1) rfl (by simp[sz])).stack (fun a ha=>by rcases zzi.1 ha with ha|ha;exact .inl ha;cases zze.1 ha;exact .inr (by simp)) (by simp;omega)
 obtain rfl|rfl|rfl|rfl:j=0\/j=1\/j=2\/j=3:=by omega
 ·exact push _ rfl
 ·exact push _ rfl
 ·exact push _ rfl
 ·by_cases aT:y=0
  ·refine .inl ⟨3,?_,k3 (by simp[opV,aT])⟩;show (if y=0 then _ else _)=_;rw[if_pos aT]
  ·have:=push (IntKind.i64.wrap (Int.tdiv x y)) (by simp[opV,aT]);show Aft hf cd Q _ (if y=0 then _ else _);rw[if_neg aT];exact this
theorem zCE(hn:h[a]?=some nd)(hf:zaV nd=false):can h a=a:=zdc hn hf
theorem zGM(a:Nat):zcE (st++[.ad a]) 1=st:=by simp[zcE]
def isV:Nd->Bool
 |.num _=>true
 |.data _ _=>true
 |_=>false
theorem zCq(hv:h[a]?=some nd)(R:Res hf Q h (st++[.ad a]) fns f W (F+1))(k:∀ f,Res hf Q h (st++[.ad a]) fns f W F->Gv hf cd Q ⟨h,st++[.ad a],fns,f,nx,bl⟩)(hd:isV nd=true:=by rfl):Ex hf cd Q [.enter] ⟨h,st++[.ad a],fns,f,nx,bl⟩:=by
 refine zCa R fun f' _ R'=>?_
 show Aft hf cd Q _ (Ma.enter hf _ _);unfold Ma.enter;rw[show (⟨h,st++[.ad a],fns,f',nx,bl⟩:Ma).st.getLast?=some (.ad a) by simp];simp only;rw[zCE hv (by cases nd <;> first|rfl|cases hd),hv,zGM];rcases k f' R' ((st++[Wd.ad a]).length+1) (Nat.lt_succ_self _) with ⟨j,e1,e2⟩|⟨A,e1,e2⟩
 ·cases nd <;> first|exact .inl ⟨j,e1,e2⟩|cases hd
 ·cases nd <;> first|exact .inr ⟨A,e1,zC9 e2⟩|cases hd
theorem zDh(hv:h[a]?=some (.clo b []))(hb:(cd.map Prod.fst)[b]?=some (n+1))(R:Res hf Q h (st++[.ad a]) fns f W (F+1))(k:∀ f,Res hf Q h (st++[.ad a]) fns f W F->Gv hf cd Q ⟨h,st++[.ad a],fns,f,nx,bl⟩):Ex hf cd Q [.enter] ⟨h,st++[.ad a],fns,f,nx,bl⟩:=by
 refine zCa R fun f' _ R'=>?_
 show Aft hf cd Q _ (Ma.enter hf _ _);unfold Ma.enter;rw[show (⟨h,st++[.ad a],fns,f',nx,bl⟩:Ma).st.getLast?=some (.ad a) by simp];simp only;rw[zCE hv rfl,hv,zGM];simp only;rw[hb];simp only;rw[if_neg (by simp),if_pos (by simp)];rcases k f' R' ((st++[Wd.ad a]).length+1) (Nat.lt_succ_self _) with ⟨j,e1,e2⟩|⟨A,e1,e2⟩
 ·exact .inl ⟨j,e1,e2⟩
 ·exact .inr ⟨A,e1,zC9 e2⟩
theorem zCV(hv:h[a]?=some (.clo b []))(hb:(cd.map Prod.fst)[b]?=some 0)(R:Res hf Q h (st++[.ad a]) fns f (W+1) (F+1))(k:∀ f,Res hf Q (h.set a .busy) (st++[.ad a,.mk 0 0]) fns f W F->Fin hf cd Q ⟨h.set a .busy,st++[.ad a,.mk 0 0],fns,f,b,bl⟩):Ex hf cd Q [.enter] ⟨h,st++[.ad a],fns,f,nx,bl⟩:=by
 refine zCa R fun f' _ R'=>?_
 show Aft hf cd Q _ (Ma.enter hf _ _);unfold Ma.enter;rw[show (⟨h,st++[.ad a],fns,f',nx,bl⟩:Ma).st.getLast?=some (.ad a) by simp];simp only;rw[zCE hv rfl,hv,zGM];simp only;rw[hb];simp only;rw[if_pos (by simp)];unfold Ma.zdy;refine zCh (A:=⟨h,st++[.ad a],fns,f',nx,bl⟩) (R'.less (show 1+([]:List Nat).length<=W+1 by simp) (zyN _)) ?_;refine .inr ⟨⟨h.set a .busy,st++[.ad a,.mk 0 0],fns,f',b,bl⟩,?_,zC9 (k f' ?_)⟩
 ·simp[okA]
 ·exact (R'.set a rfl rfl).stack (fun c hc=>by simp at hc ⊢;rcases hc with hc|hc <;> simp[hc]) (by simp;omega)
theorem zEm{v:Nat}(hc:h[c]?=some .busy)(hv:h[v]?=some nd)(k:Gv hf cd Q ⟨h.set c (.fwd v),st++[.ad v],fns,f,nx,bl⟩)(hd:isV nd=true:=by rfl):Gv hf cd Q ⟨h,st++[.ad c,.mk 0 0,.ad v],fns,f,nx,bl⟩:=fun g hg=>by
 cases g with
 |zero=>exact absurd hg (by omega)
 |succ g=>
  have hl:(st++[Wd.ad c,.mk 0 0,.ad v]).length=st.length+3:=by simp
  have JI:st.length+3<g+1:=by rw[<-hl];exact hg
  rw[Ma.za1,if_neg (by show ¬ (st++[Wd.ad c,.mk 0 0,.ad v]).length<=1;omega)];have e2:(st++[Wd.ad c,.mk 0 0,.ad v])[(st++[Wd.ad c,.mk 0 0,.ad v]).length-2]?=some (.mk 0 0):=by rw[hl];simp
  have e1:(st++[Wd.ad c,.mk 0 0,.ad v])[(st++[Wd.ad c,.mk 0 0,.ad v]).length-1]?=some (.ad v):=by rw[hl];simp
  have e3:(st++[Wd.ad c,.mk 0 0,.ad v])[(st++[Wd.ad c,.mk 0 0,.ad v]).length-3]?=some (.ad c):=by rw[hl];simp
  have ec:zcE (st++[Wd.ad c,.mk 0 0,.ad v]) 3=st:=by simp[zcE]
  have kk:=k g (by show (st++[Wd.ad v]).length<g;simp;omega);cases nd
  all_goals
   first
   |simp only[e2,e1,e3,hc,hv]
    rw[if_neg (by omega),if_pos trivial,if_pos (by rw[hl];omega),ec];exact kk
   |cases hd
theorem zCG{v:Nat}(hb:b<1000000000)(k:Fin hf cd Q ⟨h,st++[.ad v],fns,f,b,bl⟩):Gv hf cd Q ⟨h,st++[.mk 1 b,.ad v],fns,f,nx,bl⟩:=fun g hg=>by
 cases g with
 |zero=>exact absurd hg (by omega)
 |succ g=>
  have hl:(st++[Wd.mk 1 b,.ad v]).length=st.length+2:=by simp
  rw[Ma.za1,if_neg (by show ¬ (st++[Wd.mk 1 b,.ad v]).length<=1;omega)];have e2:(st++[Wd.mk 1 b,.ad v])[(st++[Wd.mk 1 b,.ad v]).length-2]?=some (.mk 1 b):=by rw[hl];simp
  have e1:(st++[Wd.mk 1 b,.ad v])[(st++[Wd.mk 1 b,.ad v]).length-1]?=some (.ad v):=by rw[hl];simp
  simp only[e2,e1];rw[if_neg (by omega),if_neg (by omega),if_pos trivial];have ec:zcE (st++[Wd.mk 1 b,.ad v]) 2=st:=by simp[zcE]
  rw[ec];exact .inr ⟨_,rfl,k⟩
theorem zGA{x y:Wd}{F:Nat}(hv:h[a]?=some (.clo b []))(hb:(cd.map Prod.fst)[b]?=some 2)(R:Res hf Q h (st++[x,y,.mk 2 2,.ad a]) fns f 0 F)(k:Fin hf cd Q ⟨h,st++[x,y],fns,f,b,bl⟩):Gv hf cd Q ⟨h,st++[x,y,.mk 2 2,.ad a],fns,f,nx,bl⟩:=fun g hg=>by
 cases g with
 |zero=>exact absurd hg (by omega)
 |succ g=>
  have hl:(st++[x,y,.mk 2 2,.ad a]).length=st.length+4:=by simp
  rw[Ma.za1,if_neg (by show ¬ (st++[x,y,.mk 2 2,.ad a]).length<=1;omega)];have e2:(st++[x,y,.mk 2 2,.ad a])[(st++[x,y,.mk 2 2,.ad a]).length-2]?=some (.mk 2 2):=by rw[hl];simp
  simp only[e2];rw[if_neg (by omega),if_neg (by omega),if_neg (by omega),if_pos trivial];have ea:Ma.za5 hf (cd.map Prod.fst) 2 ⟨h,st++[x,y,.mk 2 2,.ad a],fns,f,nx,bl⟩=some (.ok (true,⟨h,st++[x,y],fns,f,b,bl⟩))\/(Ma.za5 hf (cd.map Prod.fst) 2 ⟨h,st++[x,y,.mk 2 2,.ad a],fns,f,nx,bl⟩=some (.error 4)/\Q (.error 4)):=by
   unfold Ma.za5;rw[show (⟨h,st++[x,y,.mk 2 2,.ad a],fns,f,nx,bl⟩:Ma).st.getLast?=some (.ad a) by simp];simp only[hv,hb];rw[if_neg (by simp),if_neg (by simp),if_neg (by omega)];unfold Ma.call ask;by_cases aJ:Fits hf ⟨h,st++[x,y,.mk 2 2,.ad a],fns,f,nx,bl⟩ ([]:List Nat).length
   ·rw[if_pos aJ];left;have et:(st++[x,y,.mk 2 2,.ad a]).take (st.length+2)=st++[x,y]:=by
     rw[List.take_append,zy9 (by omega),Nat.add_sub_cancel_left];rfl
    simp[okA,leave,zcE,et]
   ·rw[if_neg aJ];exact .inr ⟨rfl,R.2.1.elim id (fun x=>(aJ (zAR R.1.shut x)).elim)⟩
  rcases ea with ea|⟨ea,q4⟩
  ·rw[ea];exact .inr ⟨_,rfl,k⟩
  ·rw[ea];exact .inl ⟨4,rfl,q4⟩
theorem zER{v:Nat}(k:Q (.ok ⟨h,[.ad v],fns,f,-1,bl⟩)):Gv hf cd Q ⟨h,[.ad v],fns,f,nx,bl⟩:=fun g hg=>by
 cases g with
 |zero=>exact absurd hg (by omega)
 |succ g=>
  rw[Ma.za1,if_pos (by simp)];exact .inr ⟨_,rfl,1,_,by rw[Ma.work,if_pos rfl];rfl,k⟩
theorem zB4{c:List Ins}(hb:cd[b]?=some (n,c))(k:Ex hf cd Q c ⟨h,st,fns,f,b,(st.length:Int)-n⟩):Fin hf cd Q ⟨h,st,fns,f,b,bl⟩:=by
 rcases k with ⟨j,e1,e2⟩|⟨A,e1,g,r,e2,e3⟩
 ·refine ⟨1,.error j,?_,e2⟩;rw[Ma.work,if_neg (by simp),if_neg (by simp)];simp only[zy2,hb];rw[e1]
 ·refine ⟨g+1,r,?_,e3⟩;rw[Ma.work,if_neg (by simp),if_neg (by simp)];simp only[zy2,hb];rw[e1];exact e2
variable {hf:Nat} {cd:List (Nat × List Ins)} {Q:Except Nat Ma->Prop} {h:List Nd} {st:List Wd} {fns:List Nat} {f W F:Nat} {nx bl:Int}
def zD9 (hf:Nat) (cd:List (Nat × List Ins)) (Q:Except Nat Ma->Prop) (v:Option Int) (L:Nat) (h:List Nd) (st:List Wd) (fns:List Nat) (W F:Nat):Prop:=
 (v=none->Q (.error 3))/\∀ n,v=some n->∀ (h':List Nd) (a f:Nat) (nx bl:Int),h.length<=h'.length->(∀ i,i<L->h'[i]?=h[i]?)->h'[a]?=some (.num n)->Res hf Q h' (st++[.ad a]) fns f W F->Gv hf cd Q ⟨h',st++[.ad a],fns,f,nx,bl⟩
def FO (h:List Nd):Prop:=∀ k,k<4->h[k]?=some (.clo k [])
theorem FO.len(o:FO h):4<=h.length:=by
 have:=(zyL.1 (o 3 (by omega))).1;omega
def Runs (hf:Nat) (cd:List (Nat × List Ins)) (Q:Except Nat Ma->Prop) (fns:List Nat) (x:Sm) (c:List Ins):Prop:=
 ∀ (h:List Nd) (st:List Wd) (f W F:Nat) (nx:Int),FO h->Res hf Q h st fns f (W+30*x.ct) (F+30*x.ct)->zD9 hf cd Q x.val h.length h st fns W F->Ex hf cd Q c ⟨h,st,fns,f,nx,st.length⟩
def HdN (hf:Nat) (cd:List (Nat × List Ins)) (Q:Except Nat Ma->Prop) (fns:List Nat) (nd:Nd) (x:Sm):Prop:=
 (∃ n:Nat,x=.num n/\nd=.num n)\/∃ b c,nd=.clo b []/\cd[b]?=some (0,c)/\Runs hf cd Q fns x c
theorem zC6(x:Sm):1<=x.ct:=by cases x <;> simp[Sm.ct]
theorem zEg{c:List Ins}(hb:cd[b]?=some (n,c)):(cd.map Prod.fst)[b]?=some n:=by simp[hb]
theorem force{L:Nat}{x:Sm}(h4:4<=L)(JH:L<=a)(hn:h[a]?=some nd)(hx:HdN hf cd Q fns nd x)(o:FO h)(R:Res hf Q h (st++[.ad a]) fns f (W+30*x.ct+1) (F+30*x.ct+1))(c3:x.val=none->Q (.error 3))(k:∀ n,x.val=some n->∀ (h':List Nd) (v f:Nat) (nx bl:Int),h.length<=h'.length->(∀ i,i<h.length->(i≠a\/∃ n,h[i]?=some (.num n))->h'[i]?=h[i]?)->h'[v]?=some (.num n)->Res hf Q h' (st++[.ad v]) fns f W F->Gv hf cd Q ⟨h',st++[.ad v],fns,f,nx,bl⟩):Ex hf cd Q [.enter] ⟨h,st++[.ad a],fns,f,nx,bl⟩:=by
 rcases hx with ⟨n,rfl,rfl⟩|⟨b,c,rfl,hc,hr⟩
 ·exact zCq hn (R.less (W':=W) (F':=F+1) (by omega) (by omega)) fun f R=>k n rfl h a f nx bl (zyN _) (fun _ _ _=>rfl) hn R
 ·have aU:a<h.length:=(zyL.1 hn).1;refine zCV (W:=W+30*x.ct) (F:=F+30*x.ct) hn (zEg hc) R fun f R=>zB4 hc ?_
  have e0:((st++[Wd.ad a,.mk 0 0]).length:Int)-(0:Nat)=((st++[Wd.ad a,.mk 0 0]).length:Int):=by simp
  rw[e0];refine hr _ _ _ W F _ (fun j hj=>by rw[zAo (by omega)];exact o j hj) R ⟨c3,fun n hv h' v f nx bl p1 p2 p3 R=>?_⟩;rw[zy6]at p1 p2;have hb:h'[a]?=some .busy:=by rw[p2 a aU,List.getElem?_set_self aU]
  have Jq:v≠a:=fun e=>by rw[e,hb]at p3;cases p3
  have dJ:v<h'.length:=(zyL.1 p3).1;rw[zzk]at R ⊢;refine zEm hb p3 (k n hv _ v f nx bl (by rw[zy6];exact p1) (fun i hi E0=>?_) (by rw[zAo (Ne.symm Jq)];exact p3) ?_)
  ·have Ap:i≠a:=fun e=>by
    rcases E0 with E0|⟨m,E0⟩
    ·exact E0 e
    ·rw[e,hn]at E0;cases E0
   rw[zAo (Ne.symm Ap),p2 i hi,zAo (Ne.symm Ap)]
  ·exact (R.set a (n:=.fwd v) (by simpa [inN] using dJ) rfl).stack (fun c hc=>by simp at hc ⊢;rcases hc with hc|hc <;> simp[hc]) (by simp)
theorem zEp(Ij k:Nat)(x y:Sm):(Sm.op Ij k x y).val=(match x.val,y.val with|some a,some b=>opV k a b|_,_=>none):=by
 rw[Sm.val];cases x.val <;> cases y.val <;> rfl
theorem two{p q d L Ij:Nat}{np nq:Nd}{x y:Sm}(hj:j<4)(hc:cd[c]?=some (2,[.zbX,.push 1,.wait d,.push 0,.zci 3,.enter]))(hd:cd[d]?=some (2,[.comp ⟨(Sm.sign j).toArray⟩,.enter]))(aN:cd.length<1000000000)(h4:4<=L)(hp:L<=p)(hq:L<=q)(Iu:p≠q)(IU:h[p]?=some np)(hx:HdN hf cd Q fns np x)(IC:h[q]?=some nq)(hy:HdN hf cd Q fns nq y)(o:FO h)(R:Res hf Q h (st++[.ad q,.mk 1 c,.ad p]) fns f (W+30*x.ct+30*y.ct+10) (F+30*x.ct+30*y.ct+10))(K:zD9 hf cd Q (Sm.op Ij j x y).val L h st fns W F):Ex hf cd Q [.enter] ⟨h,st++[.ad q,.mk 1 c,.ad p],fns,f,nx,bl⟩:=by
 have IP:c<cd.length:=(zyL.1 hc).1;have Jl:d<cd.length:=(zyL.1 hd).1;have p7:q<h.length:=(zyL.1 IC).1;rw[zEp]at K;have e0:st++[Wd.ad q,.mk 1 c,.ad p]=(st++[Wd.ad q,.mk 1 c])++[.ad p]:=by simp
 rw[e0]at R ⊢;refine force (W:=W+30*y.ct+9) (F:=F+30*y.ct+9) h4 hp IU hx o (R.less (by omega) (by omega)) (fun e=>K.1 (by rw[e])) fun n1 v1 h1 a1 f nx bl l1 s1 m1 R=>?_
 rw[show (st++[Wd.ad q,.mk 1 c])++[.ad a1]=(st++[Wd.ad q])++[.mk 1 c,.ad a1] by simp]at R ⊢;refine zCG (by omega) (zB4 hc ?_);have aA:((st++[Wd.ad q]++[Wd.ad a1]).length:Int)-(2:Nat)=(st.length:Int):=by simp only[zyT,zy8,zzm];omega
 rw[aA];have R1:Res hf Q h1 (st++[.ad q]++[.ad a1]) fns f (W+30*y.ct+10) (F+30*y.ct+9):=R.stack (fun c hc=>by simp at hc ⊢;rcases hc with hc|hc|hc <;> simp[hc]) (by simp;omega);refine zDu (W:=W+30*y.ct+10) (F:=F+30*y.ct+8) m1 (R1.less (by omega) (by omega)) fun f R=>?_
 refine zCn (x:=.ad a1) (W:=W+30*y.ct+9) (F:=F+30*y.ct+7) (by omega) (by simp) R fun f R=>?_
 refine zCw (W:=W+30*y.ct+8) (F:=F+30*y.ct+6) (by omega) R fun f R=>?_
 refine zCn (x:=.ad q) (W:=W+30*y.ct+7) (F:=F+30*y.ct+5) (by omega) (by simp) R fun f R=>?_
 have e1:st++[Wd.ad q]++[.ad a1]++[.ad a1]++[.mk 1 d]++[.ad q]=st++[.ad q,.ad a1]++[.ad a1,.mk 1 d,.ad q]:=by simp
 rw[e1]at R ⊢;refine zCk (F:=F+30*y.ct+4) rfl R fun f R=>?_
 rw[show st++[Wd.ad a1,.mk 1 d,.ad q]=(st++[Wd.ad a1,.mk 1 d])++[.ad q] by simp]at R ⊢;have cF:h1[q]?=some nq:=by rw[s1 q p7 (.inl (Ne.symm Iu))];exact IC
 have o1:FO h1:=fun j hj=>by rw[s1 j (by omega) (.inl (by omega))];exact o j hj
 refine force (W:=W+3) (F:=F+3) h4 hq cF hy o1 (R.less (by omega) (by omega)) (fun e=>K.1 (by rw[v1,e])) fun n2 v2 h2 a2 f nx bl l2 s2 m2 R=>?_
 rw[show (st++[Wd.ad a1,.mk 1 d])++[.ad a2]=(st++[Wd.ad a1])++[.mk 1 d,.ad a2] by simp]at R ⊢;refine zCG (by omega) (zB4 hd ?_);have aw:((st++[Wd.ad a1]++[Wd.ad a2]).length:Int)-(2:Nat)=(st.length:Int):=by simp only[zyT,zy8,zzm];omega
 rw[aw];have R1:Res hf Q h2 (st++[.ad a1]++[.ad a2]) fns f (W+3) (F+3):=R.stack (fun c hc=>by simp at hc ⊢;rcases hc with hc|hc|hc <;> simp[hc]) (by simp);rw[show st++[Wd.ad a1]++[.ad a2]=st++[.ad a1,.ad a2] by simp]at R1 ⊢;rw[v1,v2]at K;have mQ:h2[a1]?=some (.num n1):=by rw[s2 a1 (zyL.1 m1).1 (.inr ⟨n1,m1⟩)];exact m1
 refine zDt (W:=W+2) (F:=F+2) hj mQ m2 R1 K.1 fun n hn f R=>?_
 have gU:(h2++[Nd.num n])[h2.length]?=some (.num n):=by simp
 refine zCq (W:=W) (F:=F) gU (R.less (by omega) (by omega)) fun f R=>K.2 n hn _ _ _ _ _ (by simp;omega) (fun i hi=>?_) gU R
 have GB:i<h.length:=by omega
 rw[zzc (by omega),s2 i (by omega) (.inl (by omega)),s1 i GB (.inl (by omega))]
end Sg
end Ab
end Go.Proofs.YtgahgkddaljmkaaGreatDoor
namespace Go.Proofs.YtgahgkddaljmkaaGreatDoor
open Tryz
namespace Ab
namespace Sg
open Cp
def Bd (k:Nat) (d:Th.Ex):Prop:=d.kind=6/\d.tok.s=Sm.sign k/\∃ l r,d.kids=[l,r]/\l.kind=2/\l.tok.s=[112]/\r.kind=2/\r.tok.s=[113]
def Is:Sm->Th.Ex->Prop
 |.num n,e=>e.kind=1/\e.n=n
 |.op _ k a b,e=>k<4 /\
  ((e.kind=6/\e.tok.s=Sm.sign k/\∃ l r,e.kids=[l,r]/\Is a l/\Is b r) \/
   (e.kind=7/\Th.texts e.names=[[112],[113]]/\∃ d l r,e.kids=[d,l,r]/\Bd k d/\Is a l/\Is b r) \/
   (e.kind=5/\∃ f g l r,e.kids=[f,r]/\f.kind=5/\f.kids=[g,l]/\Is a l/\Is b r/\((g.kind=2/\g.tok.s=Sm.name k)\/(g.kind=4/\Th.texts g.names=[[112],[113]]/\∃ d,g.kids=[d]/\Bd k d))))
variable {e:Th.Ex}{x:Nm}
theorem zDz(hk:e.kind=2):∀ {N:Nat},x∈free N e->x=e.tok.s
 |0,h=>by simp[free]at h
 |N+1,h=>by rw[free,if_pos hk]at h;simpa using h
theorem zCF{a b:Th.Ex}(hk:e.kind=5\/e.kind=6)(hs:e.kids=[a,b]):∀ {N:Nat},x∈free N e->∃ M,x∈free M a\/x∈free M b
 |0,h=>by simp[free]at h
 |N+1,h=>by rw[free,if_neg (by omega),if_neg (by omega),if_pos hk,hs]at h;exact ⟨N,zaw.1 h⟩
variable {d:Th.Ex}
theorem zEl(hk:e.kind=4)(hs:e.kids=[d]):∀ {N:Nat},x∈free N e->∃ M,x∈free M d/\x ∉ Th.texts e.names
 |0,h=>by simp[free]at h
 |N+1,h=>by rw[free,if_neg (by omega),if_pos hk,hs]at h;exact ⟨N,zaN.1 h⟩
theorem zEQ{ps:List Th.Ex}(hk:e.kind=7)(hs:e.kids=d::ps):∀ {N:Nat},x∈free N e->∃ M,(x∈free M d/\x ∉ Th.texts e.names)\/∃ p∈ps,x∈free M p
 |0,h=>by simp[free]at h
 |N+1,h=>by
  rw[free,if_neg (by omega),if_neg (by omega),if_neg (by omega),if_pos hk,hs]at h;refine ⟨N,?_⟩;rcases zaw.1 h with h|h
  ·rcases zbh.1 h with h|h
   ·cases h
   ·exact .inr h
  ·exact .inl (zaN.1 h)
variable {k N:Nat}
theorem zCU(B:Bd k d){n:Nm}(h:n∈free N d):n=[112]\/n=[113]:=by
 obtain ⟨b1,_,l,r,b2,b3,b4,b5,b6⟩:=B;obtain ⟨M,h|h⟩:=zCF (.inr b1) b2 h
 ·exact .inl (by rw[zDz b3 h,b4])
 ·exact .inr (by rw[zDz b5 h,b6])
def zFv:List Nm:=[Sm.name 0,Sm.name 1,Sm.name 2,Sm.name 3,[108,111,111,112],[107]]
theorem zFQ(hk:k<4):Sm.name k∈zFv:=by
 obtain rfl|rfl|rfl|rfl:k=0\/k=1\/k=2\/k=3:=by omega
 all_goals decide
theorem zCd:∀ {x:Sm} {e:Th.Ex} {N:Nat} {n:Nm},Is x e->n∈free N e->n∈zFv
 |.num v,e,N,n,⟨h,_⟩,hx=>by
  cases N with
  |zero=>simp[free]at hx
  |succ N=>rw[free,if_neg (by omega),if_neg (by omega),if_neg (by omega),if_neg (by omega),if_neg (by omega),if_neg (by omega)]at hx;cases hx
 |.op _ k a b,e,N,n,⟨hk,h⟩,hx=>by
  rcases h with ⟨h1,_,l,r,h2,h3,h4⟩|⟨h1,hn,d,l,r,h2,h3,h4,h5⟩|⟨h1,f,g,l,r,h2,h3,h4,h5,h6,h7⟩
  ·obtain ⟨M,hx|hx⟩:=zCF (.inr h1) h2 hx
   ·exact zCd h3 hx
   ·exact zCd h4 hx
  ·obtain ⟨M,⟨hx,hm⟩|⟨p,hp,hx⟩⟩:=zEQ h1 h2 hx
   ·rw[hn]at hm;rcases zCU h3 hx with rfl|rfl
    ·exact absurd (by simp) hm
    ·exact absurd (by simp) hm
   ·rcases zzo.1 hp with rfl|hp
    ·exact zCd h4 hx
    ·cases zze.1 hp;exact zCd h5 hx
  ·obtain ⟨M,hx|hx⟩:=zCF (.inl h1) h2 hx
   ·obtain ⟨M,hx|hx⟩:=zCF (.inl h3) h4 hx
    ·rcases h7 with ⟨g1,g2⟩|⟨g1,gn,d,g2,g3⟩
     ·rw[zDz g1 hx,g2];exact zFQ hk
     ·obtain ⟨M,hx,hm⟩:=zEl g1 g2 hx;rw[gn]at hm;rcases zCU g3 hx with rfl|rfl
      ·exact absurd (by simp) hm
      ·exact absurd (by simp) hm
    ·exact zCd h5 hx
   ·exact zCd h6 hx
def Sl (m:Nat) (s:List Nm):Prop:=s.length=m/\∀ n∈s,n ∉ zFv
variable {m:Nat}{s:List Nm}
theorem Sl.snoc(h:Sl m s){n:Nm}(hn:n ∉ zFv):Sl (m+1) (s++[n]):=
 ⟨by simp[h.1],fun x hx=>by rcases zzi.1 hx with hx|hx;exact h.2 x hx;rw[zze.1 hx];exact hn⟩
theorem Sl.nil:Sl 0 []:=⟨rfl,by simp⟩
theorem zE6:([]:Nm) ∉ zFv:=by decide
theorem zCs{l:List Nm}(hs:Sl m s)(h:∀ n∈l,n∈zFv):zai s l=[]:=by
 rw[List.eq_nil_iff_forall_not_mem];intro x hx;obtain ⟨h1,h2⟩:=zbK.1 hx;exact hs.2 x h2 (h x h1)
theorem zD2(hs:Sl m s)(hk:k<4):za9 s (Sm.name k)=none:=zca.2 fun hx=>hs.2 _ hx (zFQ hk)
theorem fr_2(hk:e.kind=2):free (N+1) e=[e.tok.s]:=by rw[free,if_pos hk]
variable {fns:List Nm}
theorem zCM{b:Bs}{i:Nat}(h:za9 b.zac x=some i):b.use fns x=⟨b.blocks,b.zac++[[]],b.code++[.push i]⟩:=by
 unfold Bs.use;rw[h];rfl
theorem zEi{b:Bs}(h:za9 b.zac x=none):b.use fns x=⟨b.blocks,b.zac++[[]],b.code++[.zcW (fns.idxOf x)]⟩:=by
 unfold Bs.use;rw[h];rfl
variable {n:Nat}
theorem zD8{fr:Th.Ex->List Nm}{below:Nat}{b:Bs}(hk:e.kind=2):work fr fns (n+1) e below b=(b.use fns e.tok.s).ends (below+1) .enter:=by
 rw[work,if_neg (by omega),if_neg (by omega),if_neg (by omega),if_neg (by omega)];unfold zaI;rw[if_pos hk]
theorem zCP{ip iq:Nat}{b:Bs}(B:Bd k d)(hp:za9 b.zac [112]=some ip)(hq:za9 b.zac [113]=some iq):
  (work (free (N+1)) fns (n+2) d 0 b).code=b.code++[.push iq,.wait (b.blocks.length+1),.push ip,.zci 3,.enter] /\
  (work (free (N+1)) fns (n+2) d 0 b).blocks=b.blocks++[(2,[.comp ⟨(Sm.sign k).toArray⟩,.enter]),(2,[.zbX,.push 1,.wait b.blocks.length,.push 0,.zci 3,.enter])]:=by
 obtain ⟨b1,bs,l,r,b2,b3,b4,b5,b6⟩:=B;have hh:zai b.zac (free (N+1) r)=[[113]]:=by rw[fr_2 b5,b6];simp[zai,hq]
 rw[zh3 fns (n+1) 0 b b1 b2,hh,zD8 b5,zD8 b3,b4,b6];have lx:∀ bl c,Bs.use fns ⟨bl,b.zac,c⟩ [113]=⟨bl,b.zac++[[]],c++[.push iq]⟩:=fun bl c=>zCM (b:=⟨bl,b.zac,c⟩) hq
 have e1:za9 (zbo b [[113]] d).zac [113]=some 0:=by
  show za9 [[113],[],[],[]] [113]=some 0;decide
 have e2:za9 ((Bs.zak fns ⟨(((zbo b [[113]] d).use fns [113]).ends (2+1) .enter).blocks++[([([113]:Nm)].length+1,(((zbo b [[113]] d).use fns [113]).ends (2+1) .enter).code)],b.zac,b.code⟩ [[113]]).push (.wait (((zbo b [[113]] d).use fns [113]).ends (2+1) .enter).blocks.length)).zac [112]=some ip:=by
  simp only[Bs.zak,List.reverse_cons,List.reverse_nil,zzb,zz2,List.foldl_nil];rw[lx];show za9 (b.zac++[[]]++[[]]) [112]=some ip;rw[zpR (by simp),zpR (by simp),hp]
 rw[zCM e2];simp only[Bs.zak,List.reverse_cons,List.reverse_nil,zzb,zz2,List.foldl_nil];rw[lx,zCM e1];simp[Bs.ends,Bs.write,Bs.push,zbo,bs]
end Sg
end Ab
end Go.Proofs.YtgahgkddaljmkaaGreatDoor
