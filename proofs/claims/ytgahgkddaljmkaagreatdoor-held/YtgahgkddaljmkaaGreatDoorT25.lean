/- HdF .. SmB -/
import Derived.Test.YtgahgkddaljmkaaGreatDoorT24
import Derived.Test.YtgahgkddaljmkaaGreatDoorT18
set_option maxRecDepth 100000
set_option maxHeartbeats 4000000
namespace Go.Proofs.YtgahgkddaljmkaaGreatDoor
open Tryz
namespace Ab
namespace Sg
variable {hf K:Nat} {Q:Except Nat Ma->Prop} {h:List Nd} {st:List Wd} {fns:List Nat} {f W F:Nat} {nx bl:Int}
theorem EL.to{h':List Nd}(b:Nat)(hs:∀ i,i<h.length->i≠b->h'[i]?=h[i]?)(hb:∀ d,h[b]?≠some (.fwd d)/\∀ t fs,h[b]?≠some (.data t fs)):∀ (n a:Nat) (ds:List Nat),EL h n a ds->EL h' n a ds
 |0,a,ds,⟨h1,d,h2,h3⟩=>by
  refine ⟨h1,d,?_,?_⟩
  ·rw[hs a (zyL.1 h2).1 (fun e=>(hb d).1 (e ▸ h2))];exact h2
  ·rw[hs d (zyL.1 h3).1 (fun e=>(hb 0).2 _ _ (e ▸ h3))];exact h3
 |n+1,a,ds,⟨d,c,t,IA,h1,h2,h3,h4⟩=>by
  refine ⟨d,c,t,IA,h1,?_,?_,EL.to b hs hb n t IA h4⟩
  ·rw[hs a (zyL.1 h2).1 (fun e=>(hb d).1 (e ▸ h2))];exact h2
  ·rw[hs d (zyL.1 h3).1 (fun e=>(hb 0).2 _ _ (e ▸ h3))];exact h3
theorem EL.app(n a:Nat)(ds:List Nat)(he:EL h n a ds)(l:List Nd):EL (h++l) n a ds:=
 EL.to h.length (fun i hi _=>zzc hi) (fun d=>by rw[zzK (zyN _)];simp) n a ds he
theorem zHx{a:Nat}(R:Res hf Q h (st++[.ad a]) fns f (W+4) (F+4))(k:∀ f,Res hf Q h (st++[.mk 1 17]++[.ad a]) fns f W F->Ex hf (hdC K) Q [.enter] ⟨h,st++[.mk 1 17]++[.ad a],fns,f,(1:Nat),st.length⟩):Fin hf (hdC K) Q ⟨h,st++[.ad a],fns,f,(1:Nat),bl⟩:=by
 refine zB4 (n:=1) rfl ?_;rw[zHm _ 1 st (by simp)];refine zCw (W:=W+3) (F:=F+3) (by omega) R fun f R=>?_
 refine zCn (x:=.ad a) (W:=W+2) (F:=F+2) (by omega) (by rw[zzk,zCN];rfl) R fun f R=>?_
 rw[show st++[Wd.ad a]++[.mk 1 17]++[.ad a]=st++[.ad a]++[.mk 1 17,.ad a] by simp]at R ⊢;refine zCk (F:=F+1) rfl R fun f R=>?_
 rw[show st++[Wd.mk 1 17,.ad a]=st++[.mk 1 17]++[.ad a] by simp]at R ⊢;exact k f (R.less (by omega) (by omega))
theorem zHZ:∀ (n:Nat) (h:List Nd) (st:List Wd) (f W F a:Nat) (bl:Int),n<=1000->2<=a->FH h fns->UL K h a n->Res hf Q h (st++[.ad a]) fns f (W+200*(n+1)) (F+200*(n+1)) ->
  (∀ (h':List Nd) (v f:Nat) (ds:List Nat) (nx bl:Int),h.length<=h'.length->(∀ i,i<h.length->i≠a->h'[i]?=h[i]?)->EL h' n a ds->ds.length=n->ds.Nodup->(∀ d∈ds,h.length<=d)->h'[v]?=some (.num n)->Res hf Q h' (st++[.ad v]) fns f W F->Gv hf (hdC K) Q ⟨h',st++[.ad v],fns,f,nx,bl⟩)->Fin hf (hdC K) Q ⟨h,st++[.ad a],fns,f,(1:Nat),bl⟩
 |n,h,st,f,W,F,a,bl,hn,ha,o,hu,R,k=>by
  refine zHx (W:=W+200*n+196) (F:=F+200*n+196) (R.less (by omega) (by omega)) fun f R=>?_
  refine zHE (W:=W+200*n+110) (F:=F+200*n+110) hn ha o hu (R.less (by omega) (by omega)) fun h1 d f nx bl p1 p2 p3 p4 p5 R=>?_
  have aU:a<h.length:=by rcases hu with ⟨hu,_⟩|⟨m,hu,_⟩ <;> exact (zyL.1 hu).1
  rcases p5 with ⟨rfl,hd⟩|⟨n',c,t,rfl,hd,ht,I1⟩
  ·refine zHA (W:=W) (F:=F) hd (R.less (by omega) (by omega)) fun f nx bl R=>?_
   have hl:=(zyL.1 hd).1;refine k _ h1.length f [] _ _ (by simp;omega) (fun i hi Ap=>by rw[zzc (by omega)];exact p2 i hi Ap) ⟨rfl,d,?_,?_⟩ rfl List.nodup_nil (by simp) (by simp) R
   ·rw[zzc (by omega)];exact p3
   ·rw[zzc hl];exact hd
  ·have rY:=(zyL.1 hd).1;have cu:t<h1.length:=by rcases I1 with ⟨I1,_⟩|⟨m,I1,_⟩ <;> exact (zyL.1 I1).1
   refine zHt (n:=n') (W:=W) (F:=F) (W2:=W+200*(n'+1)+50) (F2:=F+200*(n'+1)+50) hd (o.to ha p2) (by omega) (R.less (by omega) (by omega)) fun h2 u f bl q1 q2 q3 R rec=>?_
   have eN:UL K h2 t n':=by
    rcases I1 with ⟨x1,x2⟩|⟨m,x1,x2⟩
    ·exact .inl ⟨by rw[q2 t cu];exact x1,x2⟩
    ·refine .inr ⟨m,by rw[q2 t cu];exact x1,?_⟩;obtain ⟨v,y1,y2⟩:=x2;exact ⟨v,y1.imp id (fun y1=>by rw[q2 m (zyL.1 y1).1];exact y1),by rw[q2 v (zyL.1 y2).1];exact y2⟩
   have o2:FH h2 fns:=(o.to ha p2).to (c:=h1.length) (by omega) (fun i hi _=>q2 i hi);have Ku:∀ x,h2[t]?≠some (.num x):=fun x e=>by rcases eN with ⟨z,_⟩|⟨m,z,_⟩ <;> (rw[z]at e;cases e)
   refine zHZ n' h2 _ f (W+60) (F+60) t bl (by omega) (by omega) o2 eN (R.less (by omega) (by omega)) fun h3 v f ds nx bl r1 r2 r3 r4 r5 r6 r7 R=>?_
   have Kq:=(zyL.1 q3).1;have gL:h3[u]?=some (.num 1):=by rw[r2 u Kq (fun e=>Ku 1 (e ▸ q3))];exact q3
   refine rec h3 v f nx bl r1 gL r7 (R.less (by omega) (by omega)) fun w f nx bl hw R=>?_
   have kp:∀ i,i<h1.length->i≠t->(h3++[Nd.num ((n':Int)+1)])[i]?=h1[i]?:=fun i hi l9=>by
    rw[zzc (by omega),r2 i (by omega) l9,q2 i hi]
   refine k _ w f (d::ds) _ _ (by simp;omega) (fun i hi Ap=>?_) ⟨d,c,t,ds,rfl,?_,?_,r3.app _ _ _ _⟩ (by simp[r4]) (zAA.2 ⟨fun hm=>by have:=r6 d hm;omega,r5⟩) (fun x hx=>?_) (by rw[hw];simp) (R.less (by omega) (by omega))
   ·rw[kp i (by omega) (by omega)];exact p2 i hi Ap
   ·rw[kp a (by omega) (by omega)];exact p3
   ·rw[kp d rY (fun e=>by rcases I1 with ⟨z,_⟩|⟨m,z,_⟩ <;> (rw[<-e,hd]at z;cases z))];exact hd
   ·rcases zzo.1 hx with rfl|hx
    ·exact p4
    ·have:=r6 x hx;omega
theorem zH0:∀ (n:Nat) (h:List Nd) (st:List Wd) (f W F a:Nat) (ds:List Nat) (bl:Int),n<=1000->FH h fns->EL h n a ds->Res hf Q h (st++[.ad a]) fns f (W+200*(n+1)) (F+200*(n+1)) ->
  (∀ (h':List Nd) (v f:Nat) (nx bl:Int),h.length<=h'.length->(∀ i,i<h.length->h'[i]?=h[i]?)->h'[v]?=some (.num n)->Res hf Q h' (st++[.ad v]) fns f W F->Gv hf (hdC K) Q ⟨h',st++[.ad v],fns,f,nx,bl⟩)->Fin hf (hdC K) Q ⟨h,st++[.ad a],fns,f,(1:Nat),bl⟩
 |0,h,st,f,W,F,a,ds,bl,hn,o,⟨_,d,h1,hd⟩,R,k=>by
  refine zHx (W:=W+100) (F:=F+100) (R.less (by omega) (by omega)) fun f R=>?_
  refine zHo (W:=W+100) (F:=F+99) h1 hd R fun f R=>?_
  refine zHA (W:=W) (F:=F) hd (R.less (by omega) (by omega)) fun f nx bl R=>?_
  exact k _ h.length f _ _ (by simp) (fun i hi=>zzc hi) (by simp) R
 |n+1,h,st,f,W,F,a,ds,bl,hn,o,⟨d,c,t,IA,_,h1,hd,he⟩,R,k=>by
  refine zHx (W:=W+200*(n+1)+196) (F:=F+200*(n+1)+196) (R.less (by omega) (by omega)) fun f R=>?_
  refine zHo (W:=W+200*(n+1)+196) (F:=F+200*(n+1)+195) h1 hd R fun f R=>?_
  refine zHt (n:=n) (W:=W) (F:=F) (W2:=W+200*(n+1)+50) (F2:=F+200*(n+1)+50) hd o (by omega) (R.less (by omega) (by omega)) fun h2 u f bl q1 q2 q3 R rec=>?_
  have o2:FH h2 fns:=o.to (c:=h.length) (by have:=(zyL.1 o.2.1).1;omega) (fun i hi _=>q2 i hi);have IT:EL h2 n t IA:=EL.to h.length (fun i hi _=>q2 i hi) (fun d=>by rw[zzK (zyN _)];simp) n t IA he;refine zH0 n h2 _ f (W+60) (F+60) t IA bl (by omega) o2 IT (R.less (by omega) (by omega)) fun h3 v f nx bl r1 r2 r7 R=>?_
  have Kq:=(zyL.1 q3).1;refine rec h3 v f nx bl r1 (by rw[r2 u Kq];exact q3) r7 (R.less (by omega) (by omega)) fun w f nx bl hw R=>?_
  exact k _ w f _ _ (by simp;omega) (fun i hi=>by rw[zzc (by omega),r2 i (by omega),q2 i hi]) (by rw[hw];simp) (R.less (by omega) (by omega))
end Sg
end Ab
end Go.Proofs.YtgahgkddaljmkaaGreatDoor
namespace Go.Proofs.YtgahgkddaljmkaaGreatDoor
open Tryz
namespace Ab
namespace Sg
open Cp
abbrev O4:=Int × Int × Int × Int
variable {hf fuel nf main:Nat} {cd:List (Nat × List Ins)} {Q:Except Nat Ma->Prop}
theorem zDB{P:Ma->Prop}:∀ (k i:Nat) (h:List Nd) (fns:List Nat) (f W F:Nat),i+k<=1000000000->Res hf Q h [] fns f (W+k) F->h.length=i ->
  (Res hf Q (h++(List.range' i k).map fun j=>.clo j []) [] (fns++List.range' i k) f W F->P ⟨h++(List.range' i k).map fun j=>.clo j [],[],fns++List.range' i k,f,0,0⟩)->Aft hf cd Q P (Ma.zbm hf i k ⟨h,[],fns,f,0,0⟩)
 |0,i,h,fns,f,W,F,_,R,_,k=>.inr ⟨⟨h,[],fns,f,0,0⟩,rfl,by simpa using k (by simpa using R)⟩
 |n+1,i,h,fns,f,W,F,hi,R,hl,k=>by
  rw[Ma.zbm,if_pos (by omega)];refine zCh (A:=⟨h,[],fns,f,0,0⟩) (R.less (by omega) (zyN _)) ?_;have R1:Res hf Q (h++[.clo i []]) [] (fns++[h.length]) f (W+n) F:=by
   have R2:=R.node (n:=.clo i []) (W':=W+n) rfl (by simp[sz];omega);exact ⟨⟨R2.1.1,fun a ha=>by rcases zzi.1 ha with ha|ha;exact R2.1.2.1 a ha;cases zze.1 ha;simp,R2.1.2.2⟩,R2.2⟩
  refine zDB n (i+1) _ _ f W F (by omega) R1 (by simp[hl]) fun R3=>?_
  have e1:h++[Nd.clo i []]++(List.range' (i+1) n).map (fun j=>Nd.clo j [])=h++(List.range' i (n+1)).map fun j=>.clo j []:=by simp[List.range'_succ]
  have e2:fns++[h.length]++List.range' (i+1) n=fns++List.range' i (n+1):=by simp[List.range'_succ,hl]
  rw[e1,e2]at R3 ⊢;exact k R3
end Sg
end Ab
end Go.Proofs.YtgahgkddaljmkaaGreatDoor
namespace Go.Proofs.YtgahgkddaljmkaaGreatDoor
open Tryz
namespace Ab
namespace Sg
variable {hf K:Nat} {Q:Except Nat Ma->Prop} {h:List Nd} {st:List Wd} {fns:List Nat} {f W F:Nat} {nx bl:Int}
theorem zHy:∀ (n a:Nat) (ds:List Nat),EL h n a ds->Reach h st fns (can h a)->∀ d∈ds,Reach h st fns d/\1<=zkL h d
 |0,_,ds,⟨e,_⟩,_,d,hd=>by rw[e]at hd;cases hd
 |n+1,a,ds,⟨d0,c,t,IA,e,h1,h2,h3⟩,hr,d,hd=>by
  rw[zgl h1]at hr;rw[e]at hd;rcases zzo.1 hd with rfl|hd
  ·exact ⟨hr,by simp[zkL,h2,sz]⟩
  ·exact zHy n t IA h3 (.fld hr h2 (by simp[zdd])) d hd
theorem zHN(g:Nat->Nat):∀ ds:List Nat,(∀ d∈ds,1<=g d)->ds.length<=(ds.map g).sum
 |[],_=>by simp
 |d::ds,h=>by
  have h1:=h d (by simp);have h2:=zHN g ds (fun x hx=>h x (by simp[hx]));simp;omega
theorem zHX{j:Nat}{is:List Ins}{cd:List (Nat × List Ins)}(hn:∀ f,¬ Fits hf ⟨h,st,fns,f,nx,bl⟩ 1)(q4:Q (.error 4))(R:Res hf Q h st fns f W (F+1)):Ex hf cd Q (.push j::is) ⟨h,st,fns,f,nx,bl⟩:=by
 refine zCa R fun f' _ _=>.inl ⟨4,?_,q4⟩
 show Ma.zjF hf _ _=_;unfold Ma.zjF ask;rw[if_neg (hn f')]
theorem zHL(hK:K<=1000)(hl:2<=h.length)(o:FH h fns)(R:Res hf Q h st fns f (W+400*(K+1)+100) (F+400*(K+1)+100))(k:(hf<K/\Q (.error 4))\/∀ (h':List Nd) (v f:Nat) (nx bl:Int),h.length<=h'.length->(∀ i,i<h.length->h'[i]?=h[i]?)->h'[v]?=some (.num ((K:Int)+K))->Res hf Q h' (st++[.ad v]) fns f W F->Gv hf (hdC K) Q ⟨h',st++[.ad v],fns,f,nx,bl⟩):Ex hf (hdC K) Q [.close 18 0,.push 0,.wait 20,.push 0,.zbF 1,.zcW 1,.zci 5,.enter] ⟨h,st,fns,f,nx,st.length⟩:=by
 refine zC8 (W:=W+400*(K+1)+98) (F:=F+400*(K+1)+99) (by omega) R fun f R=>?_
 refine zCn (x:=.ad h.length) (W:=W+400*(K+1)+97) (F:=F+400*(K+1)+98) (by omega) (by rw[zCN];rfl) R fun f R=>?_
 refine zCw (W:=W+400*(K+1)+96) (F:=F+400*(K+1)+97) (by omega) R fun f R=>?_
 refine zCn (x:=.ad h.length) (W:=W+400*(K+1)+95) (F:=F+400*(K+1)+96) (by omega) (by rw[zzk,zzk,zCN];rfl) R fun f R=>?_
 refine zDw (W:=W+400*(K+1)+94) (F:=F+400*(K+1)+95) (by omega) R fun f R=>?_
 refine zDv (a:=1) (W:=W+400*(K+1)+93) (F:=F+400*(K+1)+94) o.2.2.2 R fun f R=>?_
 obtain ⟨h1,sq⟩:∃ h1,h1=h++[Nd.clo 18 []]:=⟨_,rfl⟩;have l1:h1.length=h.length+1:=by rw[sq];simp
 have s1:∀ i,i<h.length->h1[i]?=h[i]?:=fun i hi=>by rw[sq,zzc hi]
 have u1:h1[h.length]?=some (.clo 18 []):=by rw[sq];simp
 rw[<-sq]at R ⊢;clear sq;have o1:FH h1 fns:=o.to (c:=h.length) hl (fun i hi _=>s1 i hi);rw[show st++[Wd.ad h.length]++[.ad h.length]++[.mk 1 20]++[.ad h.length]++[.mk 2 1]++[.ad 1]=st++[.ad h.length]++[.ad h.length,.mk 1 20,.ad h.length,.mk 2 1,.ad 1] by simp]at R ⊢;refine zCk (F:=F+400*(K+1)+93) rfl R fun f R=>?_
 rw[show st++[Wd.ad h.length,.mk 1 20,.ad h.length,.mk 2 1,.ad 1]=st++[.ad h.length,.mk 1 20]++[.ad h.length,.mk 2 1]++[.ad 1] by simp]at R ⊢;refine zDh (n:=0) (F:=F+400*(K+1)+92) o1.2.1 rfl R fun f R=>?_
 rw[zzk]at R ⊢;refine zHs o1.2.1 rfl (R.less (by omega) (zyN _)) ?_;refine zHZ K h1 _ f (W+200*(K+1)+50) (F+200*(K+1)+50) h.length _ hK hl o1 (.inl ⟨u1,rfl⟩) ((R.less (W':=W+200*(K+1)+50+200*(K+1)) (F':=F+200*(K+1)+50+200*(K+1)) (by omega) (by omega)).stack (fun b hb=>by simp at hb ⊢;rcases hb with hb|hb <;> simp[hb]) (by simp)) fun h2 v f ds nx bl p1 p2 p3 p4 p5 p6 p7 R=>?_
 rw[show st++[Wd.ad h.length,.mk 1 20]++[.ad v]=st++[.ad h.length]++[.mk 1 20,.ad v] by simp]at R ⊢;refine zCG (by omega) (zB4 (n:=2) rfl ?_);rw[zHm _ 2 st (by simp)];have R2:Res hf Q h2 (st++[.ad h.length]++[.ad v]) fns f (W+200*(K+1)+50) (F+200*(K+1)+50):=R.stack (fun b hb=>by simp at hb ⊢;rcases hb with hb|hb|hb <;> simp[hb]) (by simp);refine zDu (F:=F+200*(K+1)+49) p7 R2 fun f R=>?_
 rcases k with ⟨hk,q4⟩|k
 ·refine zHX (fun f aJ=>?_) q4 R;have hr:=zHy (st:=st++[.ad h.length]++[.ad v]) (fns:=fns) K h.length ds p3 (.stk (i:=st.length) (by simp));have h1:=aJ ds p5 (fun d hd=>(hr d hd).1);have h2:=zHN (zkL h2) ds (fun d hd=>(hr d hd).2);simp only at h1;omega
 have o2:FH h2 fns:=o1.to (c:=h.length) hl p2;refine zCn (x:=.ad v) (W:=W+200*(K+1)+49) (F:=F+200*(K+1)+48) (by omega) (by rw[zzk,zCN];rfl) R fun f R=>?_
 refine zCw (W:=W+200*(K+1)+48) (F:=F+200*(K+1)+47) (by omega) R fun f R=>?_
 refine zCn (x:=.ad h.length) (W:=W+200*(K+1)+47) (F:=F+200*(K+1)+46) (by omega) (by rw[zzk,zzk,zzk,zCN];rfl) R fun f R=>?_
 refine zDw (W:=W+200*(K+1)+46) (F:=F+200*(K+1)+45) (by omega) R fun f R=>?_
 refine zDv (a:=1) (W:=W+200*(K+1)+45) (F:=F+200*(K+1)+44) o.2.2.2 R fun f R=>?_
 rw[show st++[Wd.ad h.length]++[.ad v]++[.ad v]++[.mk 1 19]++[.ad h.length]++[.mk 2 1]++[.ad 1]=st++[.ad h.length,.ad v]++[.ad v,.mk 1 19,.ad h.length,.mk 2 1,.ad 1] by simp]at R ⊢;refine zCk (F:=F+200*(K+1)+43) rfl R fun f R=>?_
 rw[show st++[Wd.ad v,.mk 1 19,.ad h.length,.mk 2 1,.ad 1]=st++[.ad v,.mk 1 19]++[.ad h.length,.mk 2 1]++[.ad 1] by simp]at R ⊢;refine zDh (n:=0) (F:=F+200*(K+1)+42) o2.2.1 rfl R fun f R=>?_
 rw[zzk]at R ⊢;refine zHs o2.2.1 rfl (R.less (by omega) (zyN _)) ?_;refine zH0 K h2 _ f (W+30) (F+30) h.length ds _ hK o2 p3 ((R.less (W':=W+30+200*(K+1)) (F':=F+30+200*(K+1)) (by omega) (by omega)).stack (fun b hb=>by simp at hb ⊢;rcases hb with hb|hb|hb <;> simp[hb]) (by simp)) fun h3 u f nx bl r1 r2 r3 R=>?_
 rw[show st++[Wd.ad v,.mk 1 19]++[.ad u]=st++[.ad v]++[.mk 1 19,.ad u] by simp]at R ⊢;refine zCG (by omega) (zB4 (n:=2) rfl ?_);rw[zHm _ 2 st (by simp)];have R3:Res hf Q h3 (st++[.ad v,.ad u]) fns f (W+30) (F+30):=R.stack (fun b hb=>by simp at hb ⊢;rcases hb with hb|hb|hb <;> simp[hb]) (by simp);rw[show st++[Wd.ad v]++[.ad u]=st++[.ad v,.ad u] by simp];have dJ:=(zyL.1 p7).1;have ew:opV 0 (K:Int) (K:Int)=some ((K:Int)+K):=by
  show some (IntKind.i64.wrap ((K:Int)+K))=_;rw[IntWalk.i64_in _ ⟨by omega,by omega⟩]
 refine zDt (j:=0) (W:=W+29) (F:=F+29) (by omega) (by rw[r2 v dJ];exact p7) r3 R3 (fun e=>by rw[ew]at e;cases e) fun m hm f R=>?_
 rw[ew]at hm;cases hm;have gU:(h3++[Nd.num ((K:Int)+K)])[h3.length]?=some (.num ((K:Int)+K)):=by simp
 refine zCq (W:=W) (F:=F) gU (R.less (by omega) (by omega)) fun f R=>k _ h3.length f _ _ (by simp;omega) (fun i hi=>?_) gU R
 rw[zzc (by omega),r2 i (by omega),p2 i (by omega) (by omega),s1 i hi]
def PQ (P:O4->Prop):Except Nat Ma->Prop
 |.error k=>P (k,0,0,0)
 |.ok A=>∃ r,A.told=some r/\P r
theorem zHz{P:O4->Prop}{fuel:Nat}(hK:K<=1000)(hp:(hf<K/\P (4,0,0,0))\/(400*(K+1)+1000<=hf/\P (1,(K:Int)+K,0,0)))(pW:400*(K+1)+1000<=fuel):∃ g r,zwX hf (hdC K) 3 2 fuel g=some r/\P r:=by
 obtain ⟨z,hz⟩:∃ z,400*(K+1)=z:=⟨_,rfl⟩;rw[hz]at hp pW;have R0:Res hf (PQ P) [] [] [] fuel (z+900+3) (z+900):=⟨⟨by simp,by simp,by simp⟩,hp.imp (fun h=>h.2) (fun h=>by simp;omega),.inr (by omega)⟩;have key:Aft hf (hdC K) (PQ P) (Fin hf (hdC K) (PQ P)) ((Ma.new fuel).start hf ((hdC K).map Prod.fst) 3 2):=by
  have:=zDB (cd:=hdC K) (P:=fun A=>Aft hf (hdC K) (PQ P) (Fin hf (hdC K) (PQ P)) (ask hf 1 A fun A2=>match A2.fns[2]? with|none=>none|some a=>Ma.enter hf ((hdC K).map Prod.fst) { A2 with st:=A2.st++[.ad a] })) 3 0 [] [] fuel (z+900) (z+900) (by omega) R0 rfl (fun R=>?_)
  ·unfold Ma.start;show Aft hf (hdC K) _ _ (match Ma.zbm hf 0 3 ⟨[],[],[],fuel,0,0⟩ with|none=>none|some (.error k)=>some (.error k)|some (.ok A1)=>ask hf 1 A1 fun A2=>match A2.fns[2]? with|none=>none|some a=>Ma.enter hf ((hdC K).map Prod.fst) { A2 with st:=A2.st++[.ad a] });rcases this with ⟨k,e1,e2⟩|⟨A,e1,e2⟩
   ·rw[e1];exact .inl ⟨k,rfl,e2⟩
   ·rw[e1];exact e2
  ·change Res hf (PQ P) [.clo 0 [],.clo 1 [],.clo 2 []] [] [0,1,2] fuel _ _ at R;show Aft hf (hdC K) (PQ P) (Fin hf (hdC K) (PQ P)) (ask hf 1 ⟨[.clo 0 [],.clo 1 [],.clo 2 []],[],[0,1,2],fuel,0,0⟩ _);refine zCh (A:=⟨[.clo 0 [],.clo 1 [],.clo 2 []],[],[0,1,2],fuel,0,0⟩) (R.less (by omega) (zyN _)) ?_;show Aft hf (hdC K) (PQ P) (Fin hf (hdC K) (PQ P)) (Ma.enter hf ((hdC K).map Prod.fst) ⟨[.clo 0 [],.clo 1 [],.clo 2 []],[.ad 2],[0,1,2],fuel,0,0⟩);have R1:Res hf (PQ P) [.clo 0 [],.clo 1 [],.clo 2 []] [.ad 2] [0,1,2] fuel (z+899) (z+900):=R.stack (fun a ha=>by cases zze.1 ha;exact .inr (show 2<3 by omega)) (by show [Wd.ad 2].length+(z+899)<=([]:List Wd).length+(z+900);simp only[zy8,zzm];omega);have hb:Aft hf (hdC K) (PQ P) (Fin hf (hdC K) (PQ P)) (Ma.zdy hf 2 2 [] ⟨[.clo 0 [],.clo 1 [],.clo 2 []],[.ad 2],[0,1,2],fuel,0,0⟩):=by
    unfold Ma.zdy;refine zCh (A:=⟨[.clo 0 [],.clo 1 [],.clo 2 []],[.ad 2],[0,1,2],fuel,0,0⟩) (R1.less (show 1+([]:List Nat).length<=z+899 by simp) (zyN _)) ?_;refine .inr ⟨⟨[.clo 0 [],.clo 1 [],.busy],[.ad 2,.mk 0 0],[0,1,2],fuel,(2:Nat),0⟩,by simp[okA],zB4 (n:=0) rfl ?_⟩;have R2:Res hf (PQ P) [.clo 0 [],.clo 1 [],.busy] [.ad 2,.mk 0 0] [0,1,2] fuel (100+z+100) (100+z+100):=((R1.set 2 (n:=.busy) rfl rfl).less (zyN _) (show 100+z+100<=z+900 by omega)).stack (fun a ha=>by rcases zzo.1 ha with ha|ha;exact .inl (zze.2 ha);cases zze.1 ha) (show 2+(100+z+100)<=1+(z+899) by omega);refine zHL (W:=100) (F:=100) (st:=[.ad 2,.mk 0 0]) hK (by simp) ⟨rfl,rfl,rfl,rfl⟩ (by rw[hz];exact R2) (hp.imp (fun h=>⟨h.1,h.2⟩) fun h h' v f nx bl p1 p2 p3 R=>?_);have b2:h'[2]?=some .busy:=by rw[p2 2 (by simp)];rfl
    have uN:v≠2:=fun e=>by rw[e,b2]at p3;cases p3
    have:=zEm (hf:=hf) (cd:=hdC K) (Q:=PQ P) (h:=h') (st:=[]) (fns:=[0,1,2]) (f:=f) (nx:=nx) (bl:=bl) (c:=2) (v:=v) b2 p3 (zER ⟨_,?_,h.2⟩)
    ·simpa using this
    ·unfold Ma.told;simp[zAo (Ne.symm uN),p3]
   exact hb
 rcases key with ⟨k,e1,e2⟩|⟨A,e1,g,r,e2,e3⟩
 ·refine ⟨0,(k,0,0,0),?_,e2⟩;unfold zwX;rw[e1]
 ·refine ⟨g,?_⟩;unfold zwX;rw[e1];simp only[e2];cases r with
  |error k=>exact ⟨_,rfl,e3⟩
  |ok A2=>
   obtain ⟨r,e4,e5⟩:=e3;exact ⟨r,e4,e5⟩
end Sg
end Ab
end Go.Proofs.YtgahgkddaljmkaaGreatDoor
