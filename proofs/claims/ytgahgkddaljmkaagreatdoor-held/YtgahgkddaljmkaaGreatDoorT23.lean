/- SmL .. SnE -/
import Derived.Test.YtgahgkddaljmkaaGreatDoorT22
set_option maxRecDepth 100000
set_option maxHeartbeats 4000000
namespace Go.Proofs.YtgahgkddaljmkaaGreatDoor
open Tryz
namespace Ab
namespace Sg
variable {hf:Nat} {cd:List (Nat × List Ins)} {Q:Except Nat Ma->Prop} {h:List Nd} {st:List Wd} {fns:List Nat} {f W F:Nat} {nx bl:Int} {is:List Ins}{a b:Nat}
theorem zGo{t:Nat}(ht:t<=1000000000)(R:Res hf Q h (st++[.ad b,.ad a]) fns f (W+4) (F+1))(k:∀ f,Res hf Q (h++[.data t [a,b]]) (st++[.ad h.length]) fns f (W+2) F->Ex hf cd Q is ⟨h++[.data t [a,b]],st++[.ad h.length],fns,f,nx,bl⟩):Ex hf cd Q (.pack t 2::is) ⟨h,st++[.ad b,.ad a],fns,f,nx,bl⟩:=by
 have ha:a<h.length:=R.1.1 a (by simp);have hb:b<h.length:=R.1.1 b (by simp);refine zCa R fun f' _ R'=>?_
 show Aft hf cd Q _ (if t<=1000000000/\2<4096 then _ else _);rw[if_pos ⟨ht,by omega⟩];unfold Ma.mkN;refine zCh (A:=⟨h,st++[.ad b,.ad a],fns,f',nx,bl⟩) (R'.less (show 2+2<=W+4 by omega) (zyN _)) ?_;refine .inr ⟨⟨h++[.data t [a,b]],st++[.ad h.length],fns,f',nx,bl⟩,?_,k f' ?_⟩
 ·simp[zlT,zcE,zwL,okA]
 ·exact (R'.node (n:=.data t [a,b]) (W':=W+1) (by simp[inN,zdd];omega) (by simp[sz])).stack (fun c hc=>by rcases zzi.1 hc with hc|hc;exact .inl (by simp[hc]);cases zze.1 hc;exact .inr (by simp)) (by simp;omega)
theorem zFk{t:Nat}{fs:List Nat}{zao:List (Nat × Nat × Nat)}(hv:h[a]?=some (.data t fs))(R:Res hf Q h (st++[.ad a]) fns f (W+fs.length) (F+1))(k:∀ f,Res hf Q h (st++(fs.map Wd.ad).reverse) fns f W F->Fin hf cd Q ⟨h,st++(fs.map Wd.ad).reverse,fns,f,b,bl⟩):Ex hf cd Q [.choose ((t,fs.length,b)::zao)] ⟨h,st++[.ad a],fns,f,nx,bl⟩:=by
 have ha:a<h.length:=R.1.1 a (by simp);have jX:∀ c∈fs,c<h.length:=fun c hc=>by
  have:=R.1.2.2 _ (zy1 hv);simp only[inN,zdd,List.all_eq_true,decide_eq_true_eq]at this;exact this c hc
 refine zCa R fun f' _ R'=>?_
 show Aft hf cd Q _ (Ma.choose hf _ _);unfold Ma.choose;rw[show (⟨h,st++[.ad a],fns,f',nx,bl⟩:Ma).st.getLast?=some (.ad a) by simp];simp only[hv];rw[Ma.zcc,if_pos rfl,if_pos rfl];refine zCh (A:=⟨h,st++[.ad a],fns,f',nx,bl⟩) (R'.less (show fs.length<=W+fs.length by omega) (zyN _)) ?_;refine .inr ⟨⟨h,st++(fs.map Wd.ad).reverse,fns,f',b,bl⟩,by simp[okA,zGM],zC9 (k f' ?_)⟩;exact R'.stack (fun c hc=>by rcases zzi.1 hc with hc|hc;exact .inl (List.mem_append_left _ hc);obtain ⟨d,hd,e⟩:=zz1.1 (List.mem_reverse.1 hc);cases e;exact .inr (jX _ hd)) (by simp;omega)
end Sg
end Ab
end Go.Proofs.YtgahgkddaljmkaaGreatDoor
namespace Go.Proofs.YtgahgkddaljmkaaGreatDoor
open Tryz
namespace Ab
namespace Sg
variable {hf:Nat} {cd:List (Nat × List Ins)} {Q:Except Nat Ma->Prop} {h:List Nd} {st:List Wd} {fns:List Nat} {f W F:Nat} {nx bl:Int} {is:List Ins}{a b:Nat}
theorem zFz{g:Nat}(hv:h[a]?=some (.clo b [g]))(hb:(cd.map Prod.fst)[b]?=some 1)(R:Res hf Q h (st++[.ad a]) fns f (W+2) (F+1))(k:∀ f,Res hf Q (h.set a .busy) (st++[.ad a,.mk 0 0,.ad g]) fns f W F->Fin hf cd Q ⟨h.set a .busy,st++[.ad a,.mk 0 0,.ad g],fns,f,b,bl⟩):Ex hf cd Q [.enter] ⟨h,st++[.ad a],fns,f,nx,bl⟩:=by
 have hg:g<h.length:=by
  have:=R.1.2.2 _ (zy1 hv);simpa [inN,zdd] using this
 refine zCa R fun f' _ R'=>?_
 show Aft hf cd Q _ (Ma.enter hf _ _);unfold Ma.enter;rw[show (⟨h,st++[.ad a],fns,f',nx,bl⟩:Ma).st.getLast?=some (.ad a) by simp];simp only;rw[zCE hv rfl,hv,zGM];simp only;rw[hb];simp only;rw[if_pos (by simp)];unfold Ma.zdy;refine zCh (A:=⟨h,st++[.ad a],fns,f',nx,bl⟩) (R'.less (show 1+[g].length<=W+2 by simp) (zyN _)) ?_;refine .inr ⟨⟨h.set a .busy,st++[.ad a,.mk 0 0,.ad g],fns,f',b,bl⟩,?_,zC9 (k f' ?_)⟩
 ·simp[okA]
 ·exact (R'.set a (n:=.busy) rfl rfl).stack (fun c hc=>by simp at hc ⊢;rcases hc with hc|hc|hc <;> simp[hc,hg]) (by simp;omega)
theorem zF1{g:Nat}(hb:b<=1000000000)(R:Res hf Q h (st++[.ad g]) fns f (W+3) (F+1))(k:∀ f,Res hf Q (h++[.clo b [g]]) (st++[.ad h.length]) fns f W F->Ex hf cd Q is ⟨h++[.clo b [g]],st++[.ad h.length],fns,f,nx,bl⟩):Ex hf cd Q (.close b 1::is) ⟨h,st++[.ad g],fns,f,nx,bl⟩:=by
 have hg:g<h.length:=R.1.1 g (by simp);refine zCa R fun f' _ R'=>?_
 show Aft hf cd Q _ (if b<=1000000000/\1<4096 then _ else _);rw[if_pos ⟨hb,by omega⟩];unfold Ma.mkN;refine zCh (A:=⟨h,st++[.ad g],fns,f',nx,bl⟩) (R'.less (show 1+2<=W+3 by omega) (zyN _)) ?_;refine .inr ⟨⟨h++[.clo b [g]],st++[.ad h.length],fns,f',nx,bl⟩,?_,k f' ?_⟩
 ·simp[zlT,zcE,zwL,okA]
 ·exact ((R'.node (n:=.clo b [g]) (W':=W+1) (by simpa [inN,zdd] using hg) (by simp[sz])).less (zz0 W 1) (zyN _)).stack (fun c hc=>by rcases zzi.1 hc with hc|hc;exact .inl (List.mem_append_left _ hc);cases zze.1 hc;exact .inr (by simp)) (by simp)
end Sg
end Ab
end Go.Proofs.YtgahgkddaljmkaaGreatDoor
