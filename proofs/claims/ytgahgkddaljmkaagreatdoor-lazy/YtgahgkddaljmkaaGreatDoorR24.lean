/- SmL .. SmM -/
import Derived.Test.YtgahgkddaljmkaaGreatDoorR23
set_option maxRecDepth 100000
set_option maxHeartbeats 4000000
namespace Go.Proofs.YtgahgkddaljmkaaGreatDoor
open Tryz
namespace Ab
namespace Sg
variable {hf:Nat} {cd:List (Nat × List Ins)} {Q:Except Nat Ma->Prop} {h:List Nd} {st:List Wd} {fns:List Nat} {f W F:Nat} {nx bl:Int} {is:List Ins}{a b:Nat}
theorem zGo{t:Nat}(ht:t<=1000000000)(R:Res hf Q h (st++[.ad b,.ad a]) fns f (W+4) (F+1))(k:∀ f,Res hf Q (h++[.data t [a,b]]) (st++[.ad h.length]) fns f (W+2) F->Ex hf cd Q is ⟨h++[.data t [a,b]],st++[.ad h.length],fns,f,nx,bl⟩):Ex hf cd Q (.pack t 2::is) ⟨h,st++[.ad b,.ad a],fns,f,nx,bl⟩:=by
 have ha:a<h.length:=R.1.1 a (by simp);have hb:b<h.length:=R.1.1 b (by simp);refine zCa R fun f' _ R'=>?_
 show Aft hf cd Q _ (if t<=1000000000/\2<4096 then _ else _);rw[if_pos ⟨ht,by omega⟩];unfold Ma.mkN;refine zCh (A:=⟨h,st++[.ad b,.ad a],fns,f',nx,bl⟩) (R'.less (show 2+2<=W+4 by omega) (zyN _)) ?_;refine .inr ⟨⟨h++[.data t [a,b]],st++[.ad h.length],fns,f',nx,bl⟩,?_,k f' ?_⟩
 ·simp[zlT,zcE,zwL,okA]
 ·exact (R'.node (n:=.data t [a,b]) (W':=W+1) (by simp[inN,zdd];omega) (by simp[sz])).stack (fun c hc=>by rcases zzi.1 hc with hc|hc;exact .inl (by simp[hc]);cases zze.1 hc;exact .inr (by simp)) (by simp;omega)
theorem zFk{t:Nat}{fs:List Nat}{zao:List (Nat × Nat × Nat)}(hv:h[a]?=some (.data t fs))(R:Res hf Q h (st++[.ad a]) fns f (W+fs.length) (F+1))(k:∀ f,Res hf Q h (st++(fs.map Wd.ad).reverse) fns f W F->Fin hf cd Q ⟨h,st++(fs.map Wd.ad).reverse,fns,f,b,bl⟩):Ex hf cd Q [.choose ((t,fs.length,b)::zao)] ⟨h,st++[.ad a],fns,f,nx,bl⟩:=by
 have ha:a<h.length:=R.1.1 a (by simp);have jX:∀ c∈fs,c<h.length:=fun c hc=>by
  have:=R.1.2.2 _ (zy1 hv);simp only[inN,zdd,List.all_eq_true,decide_eq_true_eq]at this;exact this c hc
 refine zCa R fun f' _ R'=>?_
 show Aft hf cd Q _ (Ma.choose hf _ _);unfold Ma.choose;rw[show (⟨h,st++[.ad a],fns,f',nx,bl⟩:Ma).st.getLast?=some (.ad a) by simp];simp only[hv];rw[Ma.zcc,if_pos rfl,if_pos rfl];refine zCh (A:=⟨h,st++[.ad a],fns,f',nx,bl⟩) (R'.less (show fs.length<=W+fs.length by omega) (zyN _)) ?_;refine .inr ⟨⟨h,st++(fs.map Wd.ad).reverse,fns,f',b,bl⟩,by simp[okA,zGM],zC9 (k f' ?_)⟩;exact R'.stack (fun c hc=>by rcases zzi.1 hc with hc|hc;exact .inl (List.mem_append_left _ hc);obtain ⟨d,hd,e⟩:=zz1.1 (List.mem_reverse.1 hc);cases e;exact .inr (jX _ hd)) (by simp;omega)
theorem zGz{x y:Int}(yk:x<y)(hx:h[a]?=some (.num x))(hy:h[b]?=some (.num y))(R:Res hf Q h (st++[.ad a,.ad b]) fns f (W+1) (F+1))(k:∀ f,Res hf Q (h++[.data 2 []]) (st++[.ad h.length]) fns f W F->Ex hf cd Q is ⟨h++[.data 2 []],st++[.ad h.length],fns,f,nx,bl⟩):Ex hf cd Q (.comp ⟨#[60]⟩::is) ⟨h,st++[.ad a,.ad b],fns,f,nx,bl⟩:=by
 refine zCa R fun f' _ R'=>?_
 show Aft hf cd Q _ (Ma.compute hf _ _);unfold Ma.compute;have e0:Ma.zdW ⟨h,st++[.ad a,.ad b],fns,f',nx,bl⟩ 0=some (.ok y):=by
  have:=zCR (st:=st++[.ad a]) (fns:=fns) (f:=f') (nx:=nx) (bl:=bl) hy
  rwa [zzk]at this
 have e1:Ma.zdW ⟨h,st++[.ad a,.ad b],fns,f',nx,bl⟩ 1=some (.ok x):=by
  unfold Ma.zdW;rw[if_pos (by simp)];simp[hx]
 rw[e0];simp only;rw[e1];simp only;have ec:zcE (st++[.ad a,.ad b]) 2=st:=by simp[zcE]
 rw[ec];unfold Ma.calc;rw[if_neg (by decide),if_neg (by decide),if_neg (by decide),if_neg (by decide),if_pos rfl];unfold Ma.zww Ma.mkN;have R1:Res hf Q h st fns f' (W+3) F:=R'.stack (fun c hc=>.inl (List.mem_append_left _ hc)) (by simp;omega);refine zCh (A:=⟨h,st,fns,f',nx,bl⟩) (R1.less (by omega) (zyN _)) (.inr ⟨⟨h++[.data 2 []],st++[.ad h.length],fns,f',nx,bl⟩,?_,k f' ?_⟩)
 ·simp[zlT,zcE,zwL,okA,yk]
 ·exact ((R1.node (n:=.data 2 []) (W':=W+2) rfl (by simp[sz])).stack (fun a ha=>by rcases zzi.1 ha with ha|ha;exact .inl ha;cases zze.1 ha;exact .inr (by simp)) (by simp;omega))
end Sg
end Ab
end Go.Proofs.YtgahgkddaljmkaaGreatDoor
namespace Go.Proofs.YtgahgkddaljmkaaGreatDoor
open Tryz
namespace Ab
namespace Sg
open Cp
variable {N n:Nat} {fnl:List Nm}
def NoH (N:Nat) (fnl:List Nm) (n:Nat) (e:Th.Ex):Prop:=∀ (b:Bs) (m:Nat),Sl m b.zac->∃ i bl,zaI (work (free (N+1)) fnl n) (free (N+1)) fnl b e=⟨b.blocks++bl,b.zac++[[]],b.code++[i]⟩/\bl.length<=100 /\
 ∀ (hf:Nat) (cd:List (Nat × List Ins)) (Q:Except Nat Ma->Prop) (fns:List Nat),cd.length<1000000000->fns[4]?=some 4->zDp cd b.blocks.length bl->∀ (h:List Nd) (st:List Wd) (f W F:Nat) (nx bl:Int) (is:List Ins),Res hf Q h st fns f (W+3) (F+1)->(∀ (h':List Nd) (a f:Nat),h.length<=h'.length->(∀ i,i<h.length->h'[i]?=h[i]?)->Res hf Q h' (st++[.ad a]) fns f W F->Ex hf cd Q is ⟨h',st++[.ad a],fns,f,nx,bl⟩)->Ex hf cd Q (i::is) ⟨h,st,fns,f,nx,bl⟩
variable {e:Th.Ex}
theorem zGJ(hk:e.kind=2)(hs:e.tok.s=[108,111,111,112])(hi:fnl.idxOf [108,111,111,112]=4):NoH N fnl n e:=fun b m hb=>by
 refine ⟨.zcW 4,[],?_,by simp,fun hf cd Q fns _ h4 _ h st f W F nx bl is R k=>zDv h4 (R.less (by omega) (zyN _)) fun f R=>k h 4 f (zyN _) (fun _ _=>rfl) R⟩;unfold zaI;rw[if_pos hk,hs,zEi (zca.2 fun hx=>hb.2 _ hx (by decide)),hi];simp
theorem zFC(hk:4<e.kind)(ak:∀ x∈free (N+1) e,x∈zFv)(hw:∀ bl,∃ JB,(work (free (N+1)) fnl n e 0 ⟨bl,[],[]⟩).blocks=bl++JB/\JB.length<=99):NoH N fnl n e:=fun b m hb=>by
 obtain ⟨bl,w2,w0⟩:=hw b.blocks;refine ⟨.close (b.blocks++bl).length 0,bl++[(0,(work (free (N+1)) fnl n e 0 ⟨b.blocks,[],[]⟩).code)],?_,by simp;omega,fun hf cd Q fns g1 _ g3 h st f W F nx JB is R k=>?_⟩
 ·unfold zaI zal Bs.zhD;rw[if_neg (by omega),if_neg (by omega),if_neg (by omega),zCs hb ak];simp only[List.reverse_nil,zzm];rw[if_neg (by omega),if_neg (by omega)];simp only[w2,Bs.zak,List.reverse_nil,List.foldl_nil,Bs.drop,Bs.push];simp
 ·have hl:=(zyL.1 g3.right.one).1;exact zC8 (by rw[zyT];omega) (R.less (by omega) (by omega)) fun f R=>k _ _ f (by simp) (fun i hi=>zzc hi) R
theorem zE4(h1:Dp n e)(h2:Dp (N+1) e)(h3:wt (N+1) e<=12)(bl:List (Nat × List Ins)):∃ JB,(work (free (N+1)) fnl n e 0 ⟨bl,[],[]⟩).blocks=bl++JB/\JB.length<=99:=by
 obtain ⟨⟨⟨JB,e1,_⟩,_⟩,_⟩:=zbC (M:=12) (N+1) fnl (by omega) n e 0 ⟨bl,[],[]⟩ h1 h2 h3;have hc:=(zaK 12 (N+1) fnl n e 0 ⟨bl,[],[]⟩ h2 h3).2.2;refine ⟨JB,e1,?_⟩;rw[e1]at hc;simp only[zyT]at hc;omega
end Sg
end Ab
end Go.Proofs.YtgahgkddaljmkaaGreatDoor
