/- SnI .. LiC -/
import Derived.Test.YtgahgkddaljmkaaGreatDoorR25
set_option maxRecDepth 100000
set_option maxHeartbeats 4000000
namespace Go.Proofs.YtgahgkddaljmkaaGreatDoor
open Tryz
namespace Sg
open Th Ab.Sg
theorem zGn{n:Nat}(hn:0<n)(u:List UInt8):lx n (32::u)=lx n u:=by
 obtain ⟨m,rfl⟩:∃ m,n=m+1:=⟨n-1,by omega⟩;exact zCx m u
theorem zFj:∀ k,0<(noK k).length/\(noK k).length<=(noS k).length/\(noS k).length<=20
 |0=>by decide
 |1=>by decide
 |2=>by decide
 |3=>by decide
 |4=>by decide
 |_+5=>by show 0<(noK 5).length/\(noK 5).length<=(noS 5).length/\(noS 5).length<=20;decide
theorem zFp{n:Nat}{e:UInt8}(he:e=32\/e=41\/e=59)(u:List UInt8):∀ k,lx (n+(noK k).length) (noS k++e::u)=noK k++lx n (e::u)
 |0=>zE8 (a:=noS 0) (by kernel_rfl)
 |1=>by
  rcases he with rfl|rfl|rfl
  ·exact zE8 (a:=noS 1) (by kernel_rfl)
  ·exact zE8 (a:=noS 1) (by kernel_rfl)
  ·exact zE8 (a:=noS 1) (by kernel_rfl)
 |2=>zE8 (a:=noS 2) (by kernel_rfl)
 |3=>zE8 (a:=noS 3) (by kernel_rfl)
 |4=>zE8 (a:=noS 4) (by kernel_rfl)
 |_+5=>zE8 (a:=noS 5) (by kernel_rfl)
def lzS (w k:Nat) (x:Sm):List UInt8:=match w with
 |0=>[107,32]++(Sm.par x.text++([32]++noS k))
 |1=>[108,101,116,32,122,32,61,32]++(noS k++([32,105,110,32]++Sm.par x.text))
 |2=>[99,97,115,101,32,123,50,44,50,125,32]++(Sm.par x.text++([32]++(noS k++[32,111,102,32,60,50,62,32,97,32,98,32,45,62,32,97])))
 |3=>[99,97,115,101,32,49,32,60,32,50,32,111,102,32,60,50,62,32,45,62,32]++(Sm.par x.text++([59,32,60,49,62,32,45,62,32]++noS k))
 |4=>[40,92,97,32,98,46,32,98,41,32]++(noS k++([32]++Sm.par x.text))
 |_=>[108,101,116,32,114,101,99,32,97,32,61,32,123,50,44,50,125,32]++(Sm.par x.text++([32,40,98,32]++(noS k++[41,59,32,98,32,61,32,92,99,46,32,97,32,105,110,32,99,97,115,101,32,97,32,111,102,32,60,50,62,32,104,32,116,32,45,62,32,104])))
abbrev arw:Nat × List UInt8:=(4,[45,62])
abbrev k2K:List (Nat × List UInt8):=[(4,[60]),(3,[50]),(4,[62])]
abbrev m2K:List (Nat × List UInt8):=[(4,[123]),(3,[50]),(4,[44]),(3,[50]),(4,[125])]
def lzK (w k:Nat) (x:Sm):List (Nat × List UInt8):=match w with
 |0=>[(2,[107])]++(tkP (tk x)++noK k)
 |1=>[(4,zqP),(2,[122]),(4,[61])]++(noK k++([(4,sIn)]++tkP (tk x)))
 |2=>((4,zjO)::m2K)++(tkP (tk x)++(noK k++((4,sOf)::k2K++[(2,[97]),(2,[98]),arw,(2,[97])])))
 |3=>[(4,zjO),(3,[49]),(4,[60]),(3,[50]),(4,sOf),(4,[60]),(3,[50]),(4,[62]),arw]++(tkP (tk x)++([(4,[59]),(4,[60]),(3,[49]),(4,[62]),arw]++noK k))
 |4=>[(4,[40]),(4,[92]),(2,[97]),(2,[98]),(4,[46]),(2,[98]),(4,[41])]++(noK k++tkP (tk x))
 |_=>([(4,zqP),(4,zo8),(2,[97]),(4,[61])]++m2K)++(tkP (tk x)++([(4,[40]),(2,[98])]++(noK k++([(4,[41]),(4,[59]),(2,[98]),(4,[61]),(4,[92]),(2,[99]),(4,[46]),(2,[97]),(4,sIn),(4,zjO),(2,[97]),(4,sOf)]++k2K++[(2,[104]),(2,[116]),arw,(2,[104])]))))
variable {x:Sm}
theorem zGS{d:Nat}(ho:Sm.Ok d x)(k n:Nat)(u:List UInt8):∀ w,lx (n+(lzK w k x).length) (lzS w k x++59::u)=lzK w k x++lx n (59::u)
 |0=>by
  have h:=(zFj k).1;have et:lzS 0 k x++59::u=[107,32,40]++(x.text++41::32::(noS k++59::u)):=by simp[lzS,Sm.par]
  have el:n+(lzK 0 k x).length=n+(noK k).length+1+(tk x).length+2:=by simp[lzK];omega
  rw[et,el,zE8 (a:=[107,32,40]) (q:=n+(noK k).length+1+(tk x).length) (l:=[(2,[107]),(4,[40])]) (by kernel_rfl),lex x d ho _ 41 _ (.inl rfl),zCX,zGn (by omega),zFp (.inr (.inr rfl))];simp[lzK]
 |1=>by
  have h:=(zFj k).1;have et:lzS 1 k x++59::u=[108,101,116,32,122,32,61]++32::(noS k++32::([105,110,32,40]++(x.text++41::59::u))):=by simp[lzS,Sm.par]
  have el:n+(lzK 1 k x).length=n+1+(tk x).length+2+(noK k).length+3:=by simp[lzK];omega
  rw[et,el,zE8 (a:=[108,101,116,32,122,32,61]) (q:=n+1+(tk x).length+2+(noK k).length) (l:=[(4,zqP),(2,[122]),(4,[61])]) (by kernel_rfl),zGn (by omega),zFp (.inl rfl),zGn (by omega),zE8 (a:=[105,110,32,40]) (q:=n+1+(tk x).length) (l:=[(4,sIn),(4,[40])]) (by kernel_rfl),lex x d ho _ 41 _ (.inl rfl),zCX];simp[lzK]
 |2=>by
  have h:=(zFj k).1;have et:lzS 2 k x++59::u=[99,97,115,101,32,123,50,44,50,125,32,40]++(x.text++41::32::(noS k++32::([111,102,32,60,50,62,32,97,32,98,32,45,62,32,97]++59::u))):=by simp[lzS,Sm.par]
  have el:n+(lzK 2 k x).length=n+8+(noK k).length+1+(tk x).length+7:=by simp[lzK];omega
  rw[et,el,zE8 (a:=[99,97,115,101,32,123,50,44,50,125,32,40]) (q:=n+8+(noK k).length+1+(tk x).length) (l:=(4,zjO)::m2K++[(4,[40])]) (by kernel_rfl),lex x d ho _ 41 _ (.inl rfl),zCX,zGn (by omega),zFp (.inl rfl),zGn (by omega),zE8 (a:=[111,102,32,60,50,62,32,97,32,98,32,45,62,32,97]) (q:=n) (l:=(4,sOf)::k2K++[(2,[97]),(2,[98]),arw,(2,[97])]) (by kernel_rfl)];simp[lzK]
 |3=>by
  have h:=(zFj k).1;have et:lzS 3 k x++59::u=[99,97,115,101,32,49,32,60,32,50,32,111,102,32,60,50,62,32,45,62,32,40]++(x.text++41::([59,32,60,49,62,32,45,62]++32::(noS k++59::u))):=by simp[lzS,Sm.par]
  have el:n+(lzK 3 k x).length=n+(noK k).length+5+1+(tk x).length+10:=by simp[lzK];omega
  rw[et,el,zE8 (a:=[99,97,115,101,32,49,32,60,32,50,32,111,102,32,60,50,62,32,45,62,32,40]) (q:=n+(noK k).length+5+1+(tk x).length) (l:=[(4,zjO),(3,[49]),(4,[60]),(3,[50]),(4,sOf),(4,[60]),(3,[50]),(4,[62]),arw,(4,[40])]) (by kernel_rfl),lex x d ho _ 41 _ (.inl rfl),zCX,zE8 (a:=[59,32,60,49,62,32,45,62]) (q:=n+(noK k).length) (l:=[(4,[59]),(4,[60]),(3,[49]),(4,[62]),arw]) (by kernel_rfl),zGn (by omega),zFp (.inr (.inr rfl))];simp[lzK]
 |4=>by
  have h:=(zFj k).1;have et:lzS 4 k x++59::u=[40,92,97,32,98,46,32,98,41]++32::(noS k++32::40::(x.text++41::59::u)):=by simp[lzS,Sm.par]
  have el:n+(lzK 4 k x).length=n+1+(tk x).length+1+(noK k).length+7:=by simp[lzK];omega
  rw[et,el,zE8 (a:=[40,92,97,32,98,46,32,98,41]) (q:=n+1+(tk x).length+1+(noK k).length) (l:=[(4,[40]),(4,[92]),(2,[97]),(2,[98]),(4,[46]),(2,[98]),(4,[41])]) (by kernel_rfl),zGn (by omega),zFp (.inl rfl),zGn (by omega),zDj,lex x d ho _ 41 _ (.inl rfl),zCX];simp[lzK]
 |w+5=>by
  have h:=(zFj k).1;have et:lzS (w+5) k x++59::u=[108,101,116,32,114,101,99,32,97,32,61,32,123,50,44,50,125,32,40]++(x.text++41::([32,40,98]++32::(noS k++41::([59,32,98,32,61,32,92,99,46,32,97,32,105,110,32,99,97,115,101,32,97,32,111,102,32,60,50,62,32,104,32,116,32,45,62,32,104]++59::u)))):=by simp[lzS,Sm.par]
  have el:n+(lzK (w+5) k x).length=n+18+1+(noK k).length+2+1+(tk x).length+10:=by simp[lzK];omega
  rw[et,el,zE8 (a:=[108,101,116,32,114,101,99,32,97,32,61,32,123,50,44,50,125,32,40]) (q:=n+18+1+(noK k).length+2+1+(tk x).length) (l:=[(4,zqP),(4,zo8),(2,[97]),(4,[61])]++m2K++[(4,[40])]) (by kernel_rfl),lex x d ho _ 41 _ (.inl rfl),zCX,zE8 (a:=[32,40,98]) (q:=n+18+1+(noK k).length) (l:=[(4,[40]),(2,[98])]) (by kernel_rfl),zGn (by omega),zFp (.inr (.inl rfl)),zCX,zE8 (a:=[59,32,98,32,61,32,92,99,46,32,97,32,105,110,32,99,97,115,101,32,97,32,111,102,32,60,50,62,32,104,32,116,32,45,62,32,104]) (q:=n) (l:=[(4,[59]),(2,[98]),(4,[61]),(4,[92]),(2,[99]),(4,[46]),(2,[97]),(4,sIn),(4,zjO),(2,[97]),(4,sOf)]++k2K++[(2,[104]),(2,[116]),arw,(2,[104])]) (by kernel_rfl)];simp[lzK]
end Sg
end Go.Proofs.YtgahgkddaljmkaaGreatDoor
namespace Go.Proofs.YtgahgkddaljmkaaGreatDoor
open Tryz
namespace Ab
namespace Sg
open Cp
variable {hf:Nat} {cd:List (Nat × List Ins)} {Q:Except Nat Ma->Prop} {h:List Nd} {st:List Wd} {fns:List Nat} {f W F:Nat} {nx bl:Int}{L:Nat}{x:Sm}
theorem zFu{fr:List Wd}{j p:Nat}{nd:Nd}(hj:fr[j]?=some (.ad p))(hn:h[p]?=some nd)(hx:HdN hf cd Q fns nd x)(o:FO h)(h4:4<=L)(hL:L<=p)(R:Res hf Q h (st++fr) fns f (W+30*x.ct+4) (F+30*x.ct+4))(K:zD9 hf cd Q x.val L h st fns W F):Ex hf cd Q [.push j,.zci 1,.enter] ⟨h,st++fr,fns,f,nx,st.length⟩:=by
 refine zCn (x:=.ad p) (W:=W+30*x.ct+3) (F:=F+30*x.ct+3) (by omega) (by rw[zCN];exact hj) R fun f R=>?_
 refine zCk (F:=F+30*x.ct+2) rfl R fun f R=>?_
 have gK:p<h.length:=(zyL.1 hn).1;exact force h4 hL hn hx o (R.less (by omega) (by omega)) K.1 fun n hv h' v f nx bl p1 p2 p3 R=>K.2 n hv h' v f nx bl p1 (fun i hi=>p2 i (by omega) (.inl (by omega))) p3 R
def LG (cd:List (Nat × List Ins)):Prop:=Good cd/\cd[5]?=some (2,[.push 1,.zci 1,.enter])
def zFw (N:Nat) (fnl:List Nm) (n:Nat) (x:Sm) (e:Th.Ex):Prop:=∀ JL,∃ is bl,(work (free (N+1)) fnl n e 0 ⟨JL,[],[]⟩).code=is/\(work (free (N+1)) fnl n e 0 ⟨JL,[],[]⟩).blocks=JL++bl/\bl.length<=30*x.ct+300 /\
 ∀ (hf:Nat) (cd:List (Nat × List Ins)) (Q:Except Nat Ma->Prop) (fns:List Nat),LG cd->(∀ k,k<6->fns[k]?=some k)->zDp cd JL.length bl->∀ (h:List Nd) (st:List Wd) (f W F:Nat) (nx:Int),(∀ k,k<6->h[k]?=some (.clo k []))->Res hf Q h st fns f (W+(30*x.ct+100)) (F+(30*x.ct+100))->zD9 hf cd Q x.val h.length h st fns W F->Ex hf cd Q is ⟨h,st,fns,f,nx,st.length⟩
theorem zFy{S fr ws:List Wd}{fa fb j p q:Nat}{nd:Nd}(oV:h[fa]?=some (.clo fb []))(hb:cd[fb]?=some (2,[.push j,.zci 1,.enter]))(hj:([.ad q,.ad p]:List Wd)[j]?=some (.ad L))(hn:h[L]?=some nd)(hx:HdN hf cd Q fns nd x)(o:FO h){B:Nat}(h4:4<=B)(hL:B<=L)(R:Res hf Q h (S++fr++(ws++[.ad q,.ad p,.mk 2 2,.ad fa])) fns f (W+30*x.ct+4) (F+30*x.ct+6))(K:zD9 hf cd Q x.val B h (S++ws) fns W F):Ex hf cd Q [.zci (ws.length+4),.enter] ⟨h,S++fr++(ws++[.ad q,.ad p,.mk 2 2,.ad fa]),fns,f,nx,S.length⟩:=by
 refine zCk (F:=F+30*x.ct+5) (by simp) R fun f R=>?_
 rw[show S++(ws++[Wd.ad q,.ad p,.mk 2 2,.ad fa])=(S++ws++[.ad q,.ad p,.mk 2 2])++[.ad fa] by simp]at R ⊢;refine zDh (F:=F+30*x.ct+4) oV (zEg hb) R fun f R=>?_
 rw[show (S++ws++[Wd.ad q,.ad p,.mk 2 2])++[.ad fa]=S++ws++[.ad q,.ad p,.mk 2 2,.ad fa] by simp]at R ⊢;refine zGA oV (zEg hb) (R.less (by omega) (zyN _)) (zB4 hb ?_);have aA:((S++ws++[Wd.ad q,.ad p]).length:Int)-(2:Nat)=((S++ws).length:Int):=by simp only[zyT,zy8,zzm];omega
 rw[aA];exact zFu hj hn hx o h4 hL (R.stack (fun c hc=>by simp at hc ⊢;rcases hc with hc|hc|hc|hc <;> simp[hc]) (by simp)) K
variable {N n:Nat} {fnl:List Nm}
theorem FO.of(o:∀ k,k<6->h[k]?=some (.clo k [])){h':List Nd}(hs:∀ i,i<h.length->h'[i]?=h[i]?):FO h':=fun k hk=>by
 have:=(zyL.1 (o 5 (by omega))).1;rw[hs k (by omega)];exact o k (by omega)
variable {e f0 g ey JN:Th.Ex}
theorem way0(h5:e.kind=5)(h2:e.kids=[f0,JN])(h3:f0.kind=5)(h4:f0.kids=[g,ey])(k1:g.kind=2)(k2:g.tok.s=[107])(sw:fnl.idxOf [107]=5)(hy:Hld N fnl (n+3) x ey)(nT:NoH N fnl (n+3) JN):zFw N fnl (n+4) x e:=fun JL=>by
 obtain ⟨i2,b2,v1,v0,v2⟩:=nT ⟨JL,[],[]⟩ 0 Sl.nil;obtain ⟨i1,b1,w1,w0,w2⟩:=hy ⟨JL++b2,[]++[[]],[]++[i2]⟩ 1 (Sl.nil.snoc zE6);have ew:work (free (N+1)) fnl (n+4) e 0 ⟨JL,[],[]⟩=work (free (N+1)) fnl (n+3) g 3 ⟨JL++b2++b1,[]++[[]]++[[]]++[[]],[]++[i2]++[i1]++[.zbF 2]⟩:=by
  rw[work,if_pos h5,zDm h2 h3 h4 (by omega)];simp only[List.reverse_cons,List.reverse_nil,zzb,zy7,zz2,List.foldl_nil];rw[v1];simp only[zzb,zy7]at w1 ⊢;rw[w1];rfl
 rw[ew,zD8 k1,k2,zEi (by show za9 [[],[],[]] [107]=none;decide),sw];refine ⟨[i2,i1,.zbF 2,.zcW 5,.zci 4,.enter],b2++b1,by simp[Bs.ends,Bs.write],by simp[Bs.ends,Bs.write],by simp;omega,fun hf cd Q fns g1 g2 g3 h st f W F nx o R K=>?_⟩;have hlen:=(zyL.1 (o 5 (by omega))).1;obtain ⟨nd,hx,y1⟩:=w2 hf cd Q fns g1.1 (fun k hk=>g2 k (by omega)) (by have:=g3.right;rwa [<-zyT]at this);refine v2 hf cd Q fns g1.1.1 (g2 4 (by omega)) g3.left h st f (W+30*x.ct+50) (F+30*x.ct+50) nx st.length _ (R.less (by omega) (by omega)) fun h1 a f p1 p2 R=>?_
 refine y1 h1 (st++[.ad a]) f (W+30*x.ct+40) (F+30*x.ct+40) nx st.length _ (R.less (by omega) (by omega)) fun f R=>?_
 refine zDw (W:=W+30*x.ct+30) (F:=F+30*x.ct+30) (by omega) (R.less (by omega) (by omega)) fun f R=>?_
 refine zDv (a:=5) (W:=W+30*x.ct+20) (F:=F+30*x.ct+20) (g2 5 (by omega)) (R.less (by omega) (by omega)) fun f R=>?_
 have hs:∀ i,i<h.length->(h1++[nd])[i]?=h[i]?:=fun i hi=>by rw[zzc (by omega)];exact p2 i hi
 rw[show st++[Wd.ad a]++[.ad h1.length]++[.mk 2 2]++[.ad 5]=st++[]++([]++[.ad a,.ad h1.length,.mk 2 2,.ad 5]) by simp]at R ⊢;exact zFy (W:=W) (F:=F) (S:=st) (fr:=[]) (ws:=[]) (L:=h1.length) (by rw[hs 5 hlen];exact o 5 (by omega)) g1.2 rfl (by simp) hx (FO.of o hs) (B:=h.length) (by omega) p1 (R.less (by omega) (by omega)) (by simpa using K.le (by simp;omega) hs)
variable {d:Th.Ex}
theorem way4(h5:e.kind=5)(h2:e.kids=[f0,ey])(h3:f0.kind=5)(h4:f0.kids=[g,JN])(k1:g.kind=4)(k2:Th.texts g.names=[[97],[98]])(k3:g.kids=[d])(k4:d.kind=2)(k5:d.tok.s=[98])(hy:Hld N fnl (n+3) x ey)(nT:NoH N fnl (n+3) JN):zFw N fnl (n+4) x e:=fun JL=>by
 obtain ⟨i2,b2,v1,v0,v2⟩:=hy ⟨JL,[],[]⟩ 0 Sl.nil;obtain ⟨i1,b1,w1,w0,w2⟩:=nT ⟨JL++b2,[]++[[]],[]++[i2]⟩ 1 (Sl.nil.snoc zE6);have ew:work (free (N+1)) fnl (n+4) e 0 ⟨JL,[],[]⟩=work (free (N+1)) fnl (n+3) g 3 ⟨JL++b2++b1,[[],[],[]],[i2,i1,.zbF 2]⟩:=by
  rw[work,if_pos h5,zDm h2 h3 h4 (by omega)];simp only[List.reverse_cons,List.reverse_nil,zzb,zy7,zz2,List.foldl_nil];rw[v1];simp only[zzb,zy7]at w1 ⊢;rw[w1];rfl
 have ak:∀ y∈free (N+1) g,y∈zFv:=fun y hx=>by
  obtain ⟨M,hx,hm⟩:=zEl k1 k3 hx;rw[k2,zDz k4 hx,k5]at hm;exact absurd (by simp) hm
 have eb:work (free (N+1)) fnl (n+2) d 0 ⟨JL++b2++b1,[[98],[97]],[]⟩=⟨JL++b2++b1,[[98],[97]]++[[]],[.push 0,.zci 1,.enter]⟩:=by
  rw[zD8 k4,k5,zCM (i:=0) (by show za9 [[98],[97]] [98]=some 0;decide)];rfl
 have eh:work (free (N+1)) fnl (n+3) g 3 ⟨JL++b2++b1,[[],[],[]],[i2,i1,.zbF 2]⟩=⟨JL++b2++b1++[(2,[.push 0,.zci 1,.enter])],[[],[],[],[]],[i2,i1,.zbF 2,.close (JL++b2++b1).length 0,.zci 4,.enter]⟩:=by
  rw[work,if_neg (by omega),if_neg (by omega),if_neg (by omega),if_neg (by omega)];unfold zaI zal Bs.zhD;rw[if_neg (by omega),if_neg (by omega),if_neg (by omega),zCs (m:=3) ⟨rfl,by simp[zE6]⟩ ak,k2,k3];simp only[List.reverse_cons,List.reverse_nil,zzb,zy7];rw[if_pos k1];simp only[eb,Bs.zak,List.reverse_nil,List.foldl_nil,Bs.drop,Bs.push,Bs.ends,Bs.write];rfl
 rw[ew,eh];refine ⟨_,b2++b1++[(2,[.push 0,.zci 1,.enter])],rfl,by simp,by simp;omega,fun hf cd Q fns g1 g2 g3 h st f W F nx o R K=>?_⟩;have hlen:=(zyL.1 (o 5 (by omega))).1;have gf:=g3.right.one;have bZ:=(zyL.1 gf).1;have hg:=g1.1.1;have el:(JL++b2++b1).length=JL.length+(b2++b1).length:=by simp
 obtain ⟨nd,hx,y1⟩:=v2 hf cd Q fns g1.1 (fun k hk=>g2 k (by omega)) g3.left.left;refine y1 h st f (W+30*x.ct+50) (F+30*x.ct+50) nx st.length _ (R.less (by omega) (by omega)) fun f R=>?_
 refine w2 hf cd Q fns g1.1.1 (g2 4 (by omega)) (by have:=g3.left.right;rwa [<-zyT]at this) (h++[nd]) (st++[.ad h.length]) f (W+30*x.ct+40) (F+30*x.ct+40) nx st.length _ (R.less (by omega) (by omega)) fun h1 a f p1 p2 R=>?_
 refine zDw (W:=W+30*x.ct+30) (F:=F+30*x.ct+30) (by omega) (R.less (by omega) (by omega)) fun f R=>?_
 refine zC8 (W:=W+30*x.ct+20) (F:=F+30*x.ct+20) (by omega) (R.less (by omega) (by omega)) fun f R=>?_
 simp only[zyT,zy0]at p1 p2;have hs:∀ i,i<h.length->(h1++[Nd.clo (JL++b2++b1).length []])[i]?=h[i]?:=fun i hi=>by rw[zzc (by omega),p2 i (by omega),zzc hi]
 rw[show st++[Wd.ad h.length]++[.ad a]++[.mk 2 2]++[.ad h1.length]=st++[]++([]++[.ad h.length,.ad a,.mk 2 2,.ad h1.length]) by simp]at R ⊢;exact zFy (W:=W) (F:=F) (S:=st) (fr:=[]) (ws:=[]) (L:=h.length) (j:=0) (fb:=(JL++b2++b1).length) (by simp) (by rw[el];exact gf) rfl (by rw[zzc (by omega),p2 _ (by omega)];simp) hx (FO.of o hs) (B:=h.length) (by omega) (zyN _) (R.less (by omega) (by omega)) (by simpa using K.le (by simp;omega) hs)
variable {N n:Nat} {fnl:List Nm}
theorem zD9.up{hf:Nat}{cd:List (Nat × List Ins)}{Q:Except Nat Ma->Prop}{v:Option Int}{L':Nat}{h:List Nd}{st:List Wd}{fns:List Nat}{W F:Nat}(K:zD9 hf cd Q v L h st fns W F)(hl:L<=L'):zD9 hf cd Q v L' h st fns W F:=
 ⟨K.1,fun n hn h' a f nx bl p1 p2 p3 R=>K.2 n hn h' a f nx bl p1 (fun i hi=>p2 i (by omega)) p3 R⟩
theorem way1(h7:e.kind=7)(hn:Th.texts e.names=[[122]])(hk:e.kids=[ey,JN])(nT:NoH N fnl n JN)(wy:Wrk x (30*x.ct) (work (free (N+1)) fnl n ey 0) 0 1):zFw N fnl (n+1) x e:=fun JL=>by
 obtain ⟨i,b1,v1,v0,v2⟩:=nT ⟨JL,[],[]⟩ 0 Sl.nil;obtain ⟨is,b2,c1,c2,c0,c3⟩:=wy ⟨JL++b1,[[122]],[i]⟩ ⟨rfl,by simp[zFv,Sm.name]⟩;have ew:work (free (N+1)) fnl (n+1) e 0 ⟨JL,[],[]⟩=work (free (N+1)) fnl n ey 0 ⟨JL++b1,[[122]],[i]⟩:=by
  rw[work,if_neg (by omega),if_neg (by omega),if_neg (by omega),if_pos (.inl h7),if_pos rfl,zei hk];unfold zdq;rw[if_neg (by omega)];simp only[zz2,List.foldl_nil];rw[v1,hn];rfl
 rw[ew];refine ⟨i::is,b1++b2,by rw[c1];rfl,by rw[c2];simp,by simp;omega,fun hf cd Q fns g1 g2 g3 h st f W F nx o R K=>?_⟩;refine v2 hf cd Q fns g1.1.1 (g2 4 (by omega)) g3.left h st f (W+30*x.ct) (F+30*x.ct) nx st.length _ (R.less (by omega) (by omega)) fun h1 a f p1 p2 R=>?_
 have:=c3 hf cd Q fns g1.1 (fun k hk=>g2 k (by omega)) (by have:=g3.right;rwa [<-zyT]at this) h1 st [.ad a] [] f W F nx rfl rfl (FO.of o p2) (by simpa using R) (by simpa using (K.le p1 p2).up p1);simpa using this
theorem zFB(l:List Nm):zai [] l=[]:=by
 rw[List.eq_nil_iff_forall_not_mem];intro x hx;exact absurd (zbK.1 hx).2 (by simp)
abbrev lB:Nat × List Ins:=(2,[.comp ⟨#[60]⟩,.enter])
variable {s:Th.Ex}
theorem way3{l r:Th.Ex}(h9:e.kind=9)(ha:e.zao=[(2,[]),(1,[])])(hk:e.kids=[s,ey,JN])(s6:s.kind=6)(Kd:s.tok.s=[60])(sk:s.kids=[l,r])(l1:l.kind=1)(l2:l.n=1)(r1:r.kind=1)(r2:r.n=2)(wy:Wrk x (30*x.ct) (work (free (N+1)) fnl (n+2) ey 0) 0 0)(nT:∀ bl,∃ JB,(work (free (N+1)) fnl (n+2) JN 0 ⟨bl,[],[]⟩).blocks=bl++JB/\JB.length<=99):zFw N fnl (n+3) x e:=fun JL=>by
 obtain ⟨is,b1,c1,c2,c0,c3⟩:=wy ⟨JL,[],[]⟩ Sl.nil;obtain ⟨b2,v2,v0⟩:=nT (JL++b1++[(0,is)]);obtain ⟨cn,iG⟩:∃ c,(work (free (N+1)) fnl (n+2) JN 0 ⟨JL++b1++[(0,is)],[],[]⟩).code=c:=⟨_,rfl⟩;simp only[zzb]at c1;have mJ:Cp.armsOf (work (free (N+1)) fnl (n+2)) [] e.zao [ey,JN] ⟨JL,([[]]:List Nm).reverse,[]⟩ []=(⟨JL++b1++[(0,is)]++b2++[(0,cn)],[[]],[]⟩,[(2,0,(JL++b1).length),(1,0,(JL++b1++[(0,is)]++b2).length)]):=by
  rw[ha];simp only[Cp.armsOf,Bs.zhD,Th.texts,List.map_nil,zzS,List.reverse_nil,zzm,zzb,c1,c2,v2,iG];rfl
 have ew:work (free (N+1)) fnl (n+3) e 0 ⟨JL,[],[]⟩=work (free (N+1)) fnl (n+2) s 1 ⟨JL++b1++[(0,is)]++b2++[(0,cn)]++[(1,[.choose [(2,0,(JL++b1).length),(1,0,(JL++b1++[(0,is)]++b2).length)]])],[[]],[.wait (JL++b1++[(0,is)]++b2++[(0,cn)]).length]⟩:=by
  rw[zfk fnl (n+2) 0 ⟨JL,[],[]⟩ h9 hk (zFB _).symm mJ.symm];rfl
 rw[ew];obtain ⟨B0,nH⟩:∃ B,B=JL++b1++[(0,is)]++b2++[(0,cn)]++[(1,[.choose [(2,0,(JL++b1).length),(1,0,(JL++b1++[(0,is)]++b2).length)]])]:=⟨_,rfl⟩;obtain ⟨c,hc⟩:∃ c,c=(JL++b1++[(0,is)]++b2++[(0,cn)]).length:=⟨_,rfl⟩;rw[<-nH,<-hc];have J1:Is (.num 2) r:=⟨r1,r2⟩;have Kc:Is (.num 1) l:=⟨l1,l2⟩;have JR:Sl 1 ([[]]:List Nm):=⟨rfl,by simp[zE6]⟩;have hh:zai (⟨B0,[[]],[.wait c]⟩:Bs).zac (free (N+1) r)=[]:=zCs JR (fun y=>zCd J1);rw[zh3 fnl (n+1) 1 ⟨B0,[[]],[.wait c]⟩ s6 sk,hh];obtain ⟨ir,br,u1,u2,u0,u3⟩:=zEe (N:=N) (n:=n) (fnl:=fnl) (below:=2) (m:=3) J1 (zbo ⟨B0,[[]],[.wait c]⟩ [] s) ⟨rfl,by simp[zbo,zE6]⟩;have hB:(Bs.zak fnl ⟨(work (free (N+1)) fnl (n+1) r 2 (zbo ⟨B0,[[]],[.wait c]⟩ [] s)).blocks++[(([]:List Nm).length+1,(work (free (N+1)) fnl (n+1) r 2 (zbo ⟨B0,[[]],[.wait c]⟩ [] s)).code)],[[]],[.wait c]⟩ []).push (.wait (work (free (N+1)) fnl (n+1) r 2 (zbo ⟨B0,[[]],[.wait c]⟩ [] s)).blocks.length) =
   ⟨B0++([lB]++br++[rB B0.length ir]),[[]]++[[]],[.wait c]++[.wait (B0++([lB]++br)).length]⟩:=by
  rw[u1,u2];simp[Bs.zak,Bs.push,zbo,Kd]
 have Ka:(Bs.zak fnl ⟨(work (free (N+1)) fnl (n+1) r 2 (zbo ⟨B0,[[]],[.wait c]⟩ [] s)).blocks++[(([]:List Nm).length+1,(work (free (N+1)) fnl (n+1) r 2 (zbo ⟨B0,[[]],[.wait c]⟩ [] s)).code)],(⟨B0,[[]],[.wait c]⟩:Bs).zac,(⟨B0,[[]],[.wait c]⟩:Bs).code⟩ []).push (.wait (work (free (N+1)) fnl (n+1) r 2 (zbo ⟨B0,[[]],[.wait c]⟩ [] s)).blocks.length)=_:=hB;rw[Ka];obtain ⟨il,Jb,t1,t2,t0,t3⟩:=zEe (N:=N) (n:=n) (fnl:=fnl) (below:=2) (m:=2) Kc ⟨B0++([lB]++br++[rB B0.length ir]),[[]]++[[]],[.wait c]++[.wait (B0++([lB]++br)).length]⟩ (JR.snoc zE6);obtain ⟨c2,bT⟩:∃ c2,c2=(B0++([lB]++br)).length:=⟨_,rfl⟩;rw[<-bT]at t1 t2 ⊢;refine ⟨.wait c::.wait c2::il,(b1++[(0,is)])++(b2++[(0,cn)])++[(1,[.choose [(2,0,(JL++b1).length),(1,0,(JL++b1++[(0,is)]++b2).length)]])]++([lB]++br++[rB B0.length ir])++Jb,t1.trans (by simp),t2.trans (by rw[nH];simp),by simp;omega,fun hf cd Q fns g1 g2 g3 h st f W F nx o R K=>?_⟩;have e0:JL.length+((b1++[(0,is)])++(b2++[(0,cn)])).length=c:=by rw[hc];simp
 have e1:JL.length+((b1++[(0,is)])++(b2++[(0,cn)])++[(1,[Ins.choose [(2,0,(JL++b1).length),(1,0,(JL++b1++[(0,is)]++b2).length)]])]).length=B0.length:=by rw[nH];simp
 have gy:=g3.left.left.left.left.right.one;have gc:=g3.left.left.right.one;rw[e0]at gc;have gq:=g3.left.right;rw[e1]at gq;have gd:=gq.left.left.one;have gr:=gq.left.right;have gb:=gq.right.one;have e2:B0.length+([lB]++br).length=c2:=by rw[bT];simp
 rw[e2]at gb;have aN:=(zyL.1 gc).1;have Kb:=(zyL.1 gb).1;have rY:=(zyL.1 gd).1;have hg:=g1.1.1;have gA:FnA fns:=fun k hk=>g2 k (by omega)
 have o4:FO h:=FO.of o (fun _ _=>rfl);refine zCw (W:=W+30*x.ct+99) (F:=F+30*x.ct+99) (by omega) (R.less (by omega) (by omega)) fun f R=>?_
 refine zCw (W:=W+30*x.ct+98) (F:=F+30*x.ct+98) (by omega) R fun f R=>?_
 rw[show st++[Wd.mk 1 c]++[.mk 1 c2]=st++[]++[.mk 1 c,.mk 1 c2] by simp]at R ⊢;refine t3 hf cd Q fns g1.1 gA (by have:=g3.right;rw[zyT,<-Nat.add_assoc,e1,<-zyT]at this;exact this) h st [] [.mk 1 c,.mk 1 c2] f (W+30*x.ct+60) (F+30*x.ct+60) nx rfl rfl o4 (R.less (by omega) (by omega)) ⟨(fun e=>by cases e),fun n1 v1 h1 a1 f nx bl p1 p2 p3 R=>?_⟩;cases v1;rw[show st++[Wd.mk 1 c,.mk 1 c2]++[.ad a1]=st++[.mk 1 c]++[.mk 1 c2,.ad a1] by simp]at R ⊢;refine zCG (by omega) (zB4 gb ?_);have aA:((st++[Wd.mk 1 c]++[Wd.ad a1]).length:Int)-(1:Nat)=((st++[Wd.mk 1 c]).length:Int):=by simp only[zyT,zy8,zzm];omega
 rw[aA];have R1:Res hf Q h1 (st++[.mk 1 c]++[.ad a1]) fns f (W+30*x.ct+60) (F+30*x.ct+60):=R.stack (fun c hc=>by simp at hc ⊢;rcases hc with hc|hc <;> simp[hc]) (by simp);refine zDu (F:=F+30*x.ct+59) p3 R1 fun f R=>?_
 refine zCn (x:=.ad a1) (W:=W+30*x.ct+59) (F:=F+30*x.ct+58) (by omega) (by rw[zCN];rfl) R fun f R=>?_
 refine zCw (W:=W+30*x.ct+58) (F:=F+30*x.ct+57) (by omega) R fun f R=>?_
 rw[show st++[Wd.mk 1 c]++[Wd.ad a1]++[.ad a1]++[.mk 1 B0.length]=(st++[.mk 1 c])++[.ad a1]++[.ad a1,.mk 1 B0.length] by simp]at R ⊢;have o1:FO h1:=fun j hj=>by rw[p2 j (by have:=o4.len;omega)];exact o4 j hj
 refine u3 hf cd Q fns g1.1 gA (by rw[show (zbo ⟨B0,[[]],[.wait c]⟩ [] s).blocks.length=B0.length+1 by simp[zbo]];exact gr) h1 (st++[.mk 1 c]) [.ad a1] [.ad a1,.mk 1 B0.length] f (W+30*x.ct+20) (F+30*x.ct+20) _ rfl rfl o1 (R.less (by omega) (by omega)) ⟨(fun e=>by cases e),fun n2 v2 h2 a2 f nx bl q1 q2 q3 R=>?_⟩;cases v2;rw[show (st++[Wd.mk 1 c])++[Wd.ad a1,.mk 1 B0.length]++[.ad a2]=(st++[.mk 1 c]++[.ad a1])++[.mk 1 B0.length,.ad a2] by simp]at R ⊢;refine zCG (by omega) (zB4 gd ?_);have R2:Res hf Q h2 (st++[.mk 1 c]++[.ad a1]++[.ad a2]) fns f (W+30*x.ct+20) (F+30*x.ct+20):=R.stack (fun c hc=>by simp at hc ⊢;rcases hc with hc|hc|hc <;> simp[hc]) (by simp);rw[show st++[Wd.mk 1 c]++[Wd.ad a1]++[.ad a2]=(st++[.mk 1 c])++[.ad a1,.ad a2] by simp]at R2 ⊢;have mQ:h2[a1]?=some (.num (1:Nat)):=by rw[q2 a1 (zyL.1 p3).1];exact p3
 refine zGz (W:=W+30*x.ct+19) (F:=F+30*x.ct+19) (by decide) mQ q3 R2 fun f R=>?_
 have gU:(h2++[Nd.data 2 []])[h2.length]?=some (.data 2 []):=by simp
 refine zCq (W:=W+30*x.ct+19) (F:=F+30*x.ct+18) gU R fun f R=>?_
 rw[zzk]at R ⊢;refine zCG (by omega) (zB4 gc ?_);have bD:((st++[Wd.ad h2.length]).length:Int)-(1:Nat)=(st.length:Int):=by simp only[zyT,zy8,zzm];omega
 rw[bD];have R3:Res hf Q (h2++[.data 2 []]) (st++[.ad h2.length]) fns f (W+30*x.ct+19) (F+30*x.ct+18):=R.stack (fun c hc=>by simp at hc ⊢;rcases hc with hc|hc <;> simp[hc]) (by simp);refine zFk (fs:=[]) (W:=W+30*x.ct+19) (F:=F+30*x.ct+17) gU R3 fun f R=>zB4 (n:=0) (c:=is) (by rw[zyT];exact gy) ?_
 have hs:∀ i,i<h.length->(h2++[Nd.data 2 []])[i]?=h[i]?:=fun i hi=>by rw[zzc (by omega),q2 i (by omega),p2 i hi]
 have hle:h.length<=(h2++[Nd.data 2 []]).length:=by rw[zyT];omega
 have:=c3 hf cd Q fns g1.1 gA g3.left.left.left.left.left (h2++[.data 2 []]) st [] [] f W F ((JL++b1).length:Nat) rfl rfl (FO.of o hs) (by simpa using R.less (W':=W+30*x.ct) (F':=F+30*x.ct) (by omega) (by omega)) (by simpa using (K.le hle hs).up hle);simpa using this
variable {N n:Nat} {fnl:List Nm}
abbrev mB:Nat × List Ins:=(2,[.pack 2 2,.enter])
abbrev aB:Nat × List Ins:=(2,[.push 1,.zci 1,.enter])
theorem zGO(hk:e.kind=3):free (N+1) e=[]:=by
 rw[free,if_neg (by omega),if_neg (by omega),if_neg (by omega),if_neg (by omega),if_neg (by omega),if_neg (by omega)]
def NoL (fnl:List Nm) (N n m below:Nat) (sl:List Nm) (e:Th.Ex):Prop:=∀ (JL:List (Nat × List Ins)) (cc:List Ins),∃ il bl,zaI (work (free (N+1)) fnl n) (free (N+1)) fnl ⟨JL,sl,cc⟩ e=⟨JL++bl,sl++[[]],cc++il⟩/\bl.length<=150 /\
 ∀ (hf:Nat) (cd:List (Nat × List Ins)) (Q:Except Nat Ma->Prop) (fns:List Nat),cd.length<1000000000->fns[4]?=some 4->zDp cd JL.length bl->∀ (h:List Nd) (S fr ws:List Wd) (f W F:Nat) (nx:Int) (is:List Ins),fr.length+ws.length=m->ws.length=below->(∀ w∈fr,∃ a,w=.ad a)->Res hf Q h (S++fr++ws) fns f (W+6) (F+2)->(∀ (h':List Nd) (a f:Nat),h.length<=h'.length->(∀ i,i<h.length->h'[i]?=h[i]?)->Res hf Q h' (S++fr++ws++[.ad a]) fns f W F->Ex hf cd Q is ⟨h',S++fr++ws++[.ad a],fns,f,nx,S.length⟩)->Ex hf cd Q (il++is) ⟨h,S++fr++ws,fns,f,nx,S.length⟩
variable {m:Nat}{sl:List Nm}
theorem NoH.l(nT:NoH N fnl n e){below:Nat}(aK:Sl m sl):NoL fnl N n m below sl e:=fun JL cc=>by
 obtain ⟨i,bl,v1,v0,v2⟩:=nT ⟨JL,sl,cc⟩ m aK;exact ⟨[i],bl,v1,by omega,fun hf cd Q fns g1 g2 g3 h S fr ws f W F nx is _ _ _ R k=>v2 hf cd Q fns g1 g2 g3 h (S++fr++ws) f W F nx S.length is (R.less (by omega) (by omega)) k⟩
theorem zFD{B0:List (Nat × List Ins)}(aK:Sl m sl)(s5:s.kind=5)(h2:s.kids=[f0,JN])(h3:f0.kind=5)(h4:f0.kids=[g,ey])(k1:g.kind=3)(k2:g.tag=2)(k3:g.arity=2)(hy:Hld N fnl (n+3) x ey){below:Nat}(nT:NoL fnl N (n+3) m below sl JN)(cc:List Ins):
  ∃ is bl,bl.length<=30*x.ct+151/\(work (free (N+1)) fnl (n+4) s below ⟨B0,sl,cc⟩).blocks=B0++bl/\(work (free (N+1)) fnl (n+4) s below ⟨B0,sl,cc⟩).code=cc++is /\
   ∀ (hf:Nat) (cd:List (Nat × List Ins)) (Q:Except Nat Ma->Prop) (fns:List Nat),LG cd->(∀ k,k<6->fns[k]?=some k)->zDp cd B0.length bl->∀ (h:List Nd) (S fr ws:List Wd) (f W F:Nat) (nx:Int),fr.length+ws.length=m->ws.length=below->(∀ w∈fr,∃ a,w=.ad a)->(∀ k,k<6->h[k]?=some (.clo k []))->Res hf Q h (S++fr++ws) fns f (W+30) (F+30) ->
    (∀ (h':List Nd) (a p dn f:Nat) (nd:Nd) (nx bl:Int),h.length<=h'.length->(∀ i,i<h.length->h'[i]?=h[i]?)->h.length<=p->h'[p]?=some nd->HdN hf cd Q fns nd x->h'[dn]?=some (.data 2 [p,a])->Res hf Q h' (S++ws++[.ad dn]) fns f W F->Gv hf cd Q ⟨h',S++ws++[.ad dn],fns,f,nx,bl⟩)->Ex hf cd Q is ⟨h,S++fr++ws,fns,f,nx,S.length⟩:=by
 obtain ⟨il,b2,v1,v0,v2⟩:=nT B0 cc;obtain ⟨i1,b1,w1,w0,w2⟩:=hy ⟨B0++b2,sl++[[]],cc++il⟩ (m+1) (aK.snoc zE6);have ew:work (free (N+1)) fnl (n+4) s below ⟨B0,sl,cc⟩=⟨B0++(b2++b1++[mB]),sl++[[],[],[],[]],cc++(il++[i1,.zbF 2,.close (B0++(b2++b1)).length 0,.zci (below+4),.enter])⟩:=by
  rw[work,if_pos s5,zDm h2 h3 h4 (by omega)];simp only[List.reverse_cons,List.reverse_nil,zzb,zy7,zz2,List.foldl_nil];rw[v1,w1,work,if_neg (by omega),if_neg (by omega),if_neg (by omega),if_neg (by omega)];unfold zaI zal Bs.zhD;rw[if_neg (by omega),if_neg (by omega),if_neg (by omega),zGO k1];simp only[Bs.push];rw[if_neg (by omega),if_pos k1,k2,k3];simp[zai,Bs.zak,Bs.drop,Bs.ends,Bs.write,zy9]
 rw[ew];refine ⟨_,b2++b1++[mB],by simp;omega,rfl,rfl,fun hf cd Q fns g1 g2 g3 h S fr ws f W F nx m1 m2 ak o R k=>?_⟩;have hlen:=(zyL.1 (o 5 (by omega))).1;have gf:=g3.right.one;rw[<-zyT]at gf;have bZ:=(zyL.1 gf).1;have hg:=g1.1.1;obtain ⟨nd,hx,y1⟩:=w2 hf cd Q fns g1.1 (fun k hk=>g2 k (by omega)) (by have:=g3.left.right;rwa [<-zyT]at this);generalize (B0++(b2++b1)).length=mi at *;refine v2 hf cd Q fns g1.1.1 (g2 4 (by omega)) g3.left.left h S fr ws f (W+24) (F+28) nx _ m1 m2 ak (R.less (by omega) (by omega)) fun h1 a f p1 p2 R=>?_
 refine y1 h1 (S++fr++ws++[.ad a]) f (W+20) (F+27) nx S.length _ (R.less (by omega) (by omega)) fun f R=>?_
 refine zDw (W:=W+19) (F:=F+26) (by omega) (R.less (by omega) (by omega)) fun f R=>?_
 refine zC8 (W:=W+17) (F:=F+25) (by omega) (R.less (by omega) (by omega)) fun f R=>?_
 have hs:∀ i,i<h.length->(h1++[nd]++[Nd.clo mi []])[i]?=h[i]?:=fun i hi=>by rw[zzk,zzc (by omega),p2 i hi]
 have hp:(h1++[nd]++[Nd.clo mi []])[h1.length]?=some nd:=by simp
 have oV:(h1++[nd]++[Nd.clo mi []])[(h1++[nd]).length]?=some (.clo mi []):=by simp
 have aC:h.length<=(h1++[nd]++[Nd.clo mi []]).length:=by simp;omega
 have sN:h1.length<(h1++[nd]++[Nd.clo mi []]).length:=by simp
 generalize (h1++[nd]).length=fa at *;generalize h1++[nd]++[Nd.clo mi []]=h2 at *;rw[show S++fr++ws++[Wd.ad a]++[.ad h1.length]++[.mk 2 2]++[.ad fa]=S++fr++(ws++[.ad a,.ad h1.length,.mk 2 2,.ad fa]) by simp]at R ⊢;refine zCk (F:=F+24) (by simp[m2]) R fun f R=>?_
 rw[show S++(ws++[Wd.ad a,.ad h1.length,.mk 2 2,.ad fa])=(S++ws++[.ad a,.ad h1.length,.mk 2 2])++[.ad fa] by simp]at R ⊢;refine zDh (F:=F+23) oV (zEg gf) R fun f R=>?_
 rw[show (S++ws++[Wd.ad a,.ad h1.length,.mk 2 2])++[.ad fa]=S++ws++[.ad a,.ad h1.length,.mk 2 2,.ad fa] by simp]at R ⊢;refine zGA oV (zEg gf) (R.less (by omega) (zyN _)) (zB4 gf ?_);refine zGo (W:=W+10) (F:=F+20) (by omega) ((R.stack (st':=S++ws++[.ad a,.ad h1.length]) (W':=W+19) (fun c hc=>by simp at hc ⊢;rcases hc with hc|hc|hc|hc <;> simp[hc]) (by simp;omega)).less (by omega) (by omega)) fun f R=>?_
 have gU:(h2++[Nd.data 2 [h1.length,a]])[h2.length]?=some (.data 2 [h1.length,a]):=by simp
 refine zCq (W:=W) (F:=F) gU (R.less (by omega) (by omega)) fun f R=>?_
 exact k _ a h1.length h2.length f nd _ _ (by simp;omega) (fun i hi=>by rw[zzc (by omega)];exact hs i hi) p1 (by rw[zzc sN];exact hp) hx gU R
theorem way2{ta tb:Th.Tok}(h9:e.kind=9)(ha:e.zao=[(2,[ta,tb])])(tf:ta.s=[97])(tj:tb.s=[98])(hk:e.kids=[s,d])(d1:d.kind=2)(d2:d.tok.s=[97])(s5:s.kind=5)(h2:s.kids=[f0,JN])(h3:f0.kind=5)(h4:f0.kids=[g,ey])(k1:g.kind=3)(k2:g.tag=2)(k3:g.arity=2)(hy:Hld N fnl (n+3) x ey)(nT:NoH N fnl (n+3) JN):zFw N fnl (n+5) x e:=fun JL=>by
 have ed:work (free (N+1)) fnl (n+4) d 0 ⟨JL,[[98],[97]],[]⟩=⟨JL,[[98],[97]]++[[]],[.push 1,.zci 1,.enter]⟩:=by
  rw[zD8 d1,d2,zCM (i:=1) (by show za9 [[98],[97]] [97]=some 1;decide)];rfl
 have mJ:Cp.armsOf (work (free (N+1)) fnl (n+4)) [] e.zao [d] ⟨JL,([[]]:List Nm).reverse,[]⟩ []=(⟨JL++[aB],[[]],[]⟩,[(2,2,JL.length)]):=by
  rw[ha];simp only[Cp.armsOf,Bs.zhD,Th.texts,zza,List.map_nil,zzS,List.reverse_cons,List.reverse_nil,zzb,zy7,tf,tj,ed];rfl
 have ew:work (free (N+1)) fnl (n+5) e 0 ⟨JL,[],[]⟩=work (free (N+1)) fnl (n+4) s 1 ⟨JL++[aB]++[(1,[.choose [(2,2,JL.length)]])],[[]],[.wait (JL++[aB]).length]⟩:=by
  rw[zfk fnl (n+4) 0 ⟨JL,[],[]⟩ h9 hk (zFB _).symm mJ.symm];rfl
 have JR:Sl 1 ([[]]:List Nm):=⟨rfl,by simp[zE6]⟩;obtain ⟨is,bl,u0,u1,u2,u3⟩:=zFD (n:=n) (N:=N) (fnl:=fnl) (B0:=JL++[aB]++[(1,[.choose [(2,2,JL.length)]])]) JR s5 h2 h3 h4 k1 k2 k3 hy (below:=1) (nT.l JR) [.wait (JL++[aB]).length];rw[ew];refine ⟨.wait (JL++[aB]).length::is,[aB]++[(1,[.choose [(2,2,JL.length)]])]++bl,u2,u1.trans (by simp),by simp;omega,fun hf cd Q fns g1 g2 g3 h st f W F nx o R K=>?_⟩;have ga:=g3.left.left.one;have gc:=g3.left.right.one;have gp:=g3.right;rw[<-zyT]at gc gp;rw[<-zzk]at gp;have aN:=(zyL.1 gc).1;have hg:=g1.1.1;generalize (JL++[aB]).length=c at *;refine zCw (W:=W+30*x.ct+60) (F:=F+30*x.ct+60) (by omega) (R.less (by omega) (by omega)) fun f R=>?_
 rw[show st++[Wd.mk 1 c]=st++[]++[.mk 1 c] by simp]at R ⊢;refine u3 hf cd Q fns g1 g2 gp h st [] [.mk 1 c] f (W+30*x.ct+30) (F+30*x.ct+30) nx rfl rfl (by simp) o (R.less (by omega) (by omega)) fun h' a p dn f nd nx bl p1 p2 p3 p4 hx p5 R=>?_
 rw[zzk]at R ⊢;refine zCG (by omega) (zB4 gc ?_);have bD:((st++[Wd.ad dn]).length:Int)-(1:Nat)=(st.length:Int):=by simp only[zyT,zy8,zzm];omega
 rw[bD];have R3:Res hf Q h' (st++[.ad dn]) fns f (W+30*x.ct+30) (F+30*x.ct+30):=R.stack (fun c hc=>by simp at hc ⊢;rcases hc with hc|hc <;> simp[hc]) (by simp);refine zFk (fs:=[p,a]) (W:=W+30*x.ct+20) (F:=F+30*x.ct+20) p5 (R3.less (by simp) (by omega)) fun f R=>zB4 ga ?_
 have xi:((st++([p,a].map Wd.ad).reverse).length:Int)-(2:Nat)=(st.length:Int):=by simp
 rw[xi];have hlen:=(zyL.1 (o 5 (by omega))).1;exact zFu (L:=h.length) rfl p4 hx (FO.of o p2) (by omega) p3 (R.less (by omega) (by omega)) (K.le p1 p2)
end Sg
end Ab
end Go.Proofs.YtgahgkddaljmkaaGreatDoor
namespace Go.Proofs.YtgahgkddaljmkaaGreatDoor
open Tryz
namespace Ab
namespace Sg
variable {hf:Nat} {cd:List (Nat × List Ins)} {Q:Except Nat Ma->Prop} {h:List Nd} {st:List Wd} {fns:List Nat} {f W F:Nat} {nx bl:Int} {is:List Ins}{b:Nat}
theorem zFO(hb:b<=1000000000)(R:Res hf Q h st fns f (W+3) (F+1))(k:∀ f,Res hf Q (h++[.clo b [h.length]]) (st++[.ad h.length]) fns f W F->Ex hf cd Q is ⟨h++[.clo b [h.length]],st++[.ad h.length],fns,f,nx,bl⟩):Ex hf cd Q (.hold b 1::is) ⟨h,st,fns,f,nx,bl⟩:=by
 refine zCa R fun f' _ R'=>?_
 show Aft hf cd Q _ (if b<=1000000000/\1<4096 then _ else _);rw[if_pos ⟨hb,by omega⟩];refine zCh (A:=⟨h,st,fns,f',nx,bl⟩) (R'.less (show 1+2<=W+3 by omega) (zyN _)) ?_;refine .inr ⟨⟨h++[.clo b [h.length]],st++[.ad h.length],fns,f',nx,bl⟩,by simp[okA],k f' ?_⟩;obtain ⟨⟨r1,r2,r3⟩,r4,r5⟩:=R';refine ⟨⟨fun a ha=>?_,fun a ha=>by have:=r2 a ha;simp;omega,fun m hm=>?_⟩,r4.imp id (fun x=>by simp[sz];omega),r5⟩
 ·rcases zzi.1 ha with ha|ha
  ·have:=r1 a ha;simp;omega
  ·cases zze.1 ha;simp
 ·rcases zzi.1 hm with hm|hm
  ·exact zDb (by simp) (r3 m hm)
  ·cases zze.1 hm;simp[inN,zdd]
theorem zGv(h:List Nd)(c:Nat){n o:Nd}(ho:h[c]?=some o)(hn:sz n=sz o):((h.set c n).map sz).sum=(h.map sz).sum:=by
 induction h generalizing c with
 |nil=>simp
 |cons x t ih=>
  cases c with
  |zero=>simp at ho;simp[hn,ho]
  |succ c=>simp only[zzT]at ho;rw[zyW,zza,zza,zzd,zzd,ih c ho]
theorem zFN{k a x g:Nat}(cV:0<=bl)(hs:(st++[Wd.ad g])[bl.toNat+k]?=some (.ad a))(ha:h[a]?=some (.clo b [x]))(R:Res hf Q h (st++[.ad g]) fns f W (F+1))(kk:∀ f,Res hf Q (h.set a (.clo b [g])) st fns f W F->Ex hf cd Q is ⟨h.set a (.clo b [g]),st,fns,f,nx,bl⟩):Ex hf cd Q (.fill k 1::is) ⟨h,st++[.ad g],fns,f,nx,bl⟩:=by
 have hg:g<h.length:=R.1.1 g (by simp);refine zCa R fun f' _ R'=>.inr ⟨⟨h.set a (.clo b [g]),st,fns,f',nx,bl⟩,?_,kk f' ?_⟩
 ·show Ma.fill k 1 ⟨h,st++[.ad g],fns,f',nx,bl⟩=_;unfold Ma.fill Ma.slot;rw[if_pos cV];simp only[hs,ha];simp[zlT,zcE,zwL,okA]
 ·obtain ⟨r1,r4,r5⟩:=R';exact ⟨(r1.set a (n:=.clo b [g]) (by simpa [inN,zdd] using hg)).stack (fun c hc=>.inl (List.mem_append_left _ hc)),r4.imp id (fun y=>by rw[zGv h a ha (by simp[sz])];simp at y;omega),r5⟩
theorem zFz{a g:Nat}(hv:h[a]?=some (.clo b [g]))(hb:(cd.map Prod.fst)[b]?=some 1)(R:Res hf Q h (st++[.ad a]) fns f (W+2) (F+1))(k:∀ f,Res hf Q (h.set a .busy) (st++[.ad a,.mk 0 0,.ad g]) fns f W F->Fin hf cd Q ⟨h.set a .busy,st++[.ad a,.mk 0 0,.ad g],fns,f,b,bl⟩):Ex hf cd Q [.enter] ⟨h,st++[.ad a],fns,f,nx,bl⟩:=by
 have hg:g<h.length:=by
  have:=R.1.2.2 _ (zy1 hv);simpa [inN,zdd] using this
 refine zCa R fun f' _ R'=>?_
 show Aft hf cd Q _ (Ma.enter hf _ _);unfold Ma.enter;rw[show (⟨h,st++[.ad a],fns,f',nx,bl⟩:Ma).st.getLast?=some (.ad a) by simp];simp only;rw[zCE hv rfl,hv,zGM];simp only;rw[hb];simp only;rw[if_pos (by simp)];unfold Ma.zdy;refine zCh (A:=⟨h,st++[.ad a],fns,f',nx,bl⟩) (R'.less (show 1+[g].length<=W+2 by simp) (zyN _)) ?_;refine .inr ⟨⟨h.set a .busy,st++[.ad a,.mk 0 0,.ad g],fns,f',b,bl⟩,?_,zC9 (k f' ?_)⟩
 ·simp[okA]
 ·exact (R'.set a (n:=.busy) rfl rfl).stack (fun c hc=>by simp at hc ⊢;rcases hc with hc|hc|hc <;> simp[hc,hg]) (by simp;omega)
theorem zF1{g:Nat}(hb:b<=1000000000)(R:Res hf Q h (st++[.ad g]) fns f (W+3) (F+1))(k:∀ f,Res hf Q (h++[.clo b [g]]) (st++[.ad h.length]) fns f W F->Ex hf cd Q is ⟨h++[.clo b [g]],st++[.ad h.length],fns,f,nx,bl⟩):Ex hf cd Q (.close b 1::is) ⟨h,st++[.ad g],fns,f,nx,bl⟩:=by
 have hg:g<h.length:=R.1.1 g (by simp);refine zCa R fun f' _ R'=>?_
 show Aft hf cd Q _ (if b<=1000000000/\1<4096 then _ else _);rw[if_pos ⟨hb,by omega⟩];unfold Ma.mkN;refine zCh (A:=⟨h,st++[.ad g],fns,f',nx,bl⟩) (R'.less (show 1+2<=W+3 by omega) (zyN _)) ?_;refine .inr ⟨⟨h++[.clo b [g]],st++[.ad h.length],fns,f',nx,bl⟩,?_,k f' ?_⟩
 ·simp[zlT,zcE,zwL,okA]
 ·exact ((R'.node (n:=.clo b [g]) (W':=W+1) (by simpa [inN,zdd] using hg) (by simp[sz])).less (zz0 W 1) (zyN _)).stack (fun c hc=>by rcases zzi.1 hc with hc|hc;exact .inl (List.mem_append_left _ hc);cases zze.1 hc;exact .inr (by simp)) (by simp)
theorem zFr(s l m:List Cp.Nm):Cp.zai s (l++m)=Cp.zai s l++Cp.zai s m:=by
 unfold Cp.zai;exact List.filter_append ..
end Sg
end Ab
end Go.Proofs.YtgahgkddaljmkaaGreatDoor
namespace Go.Proofs.YtgahgkddaljmkaaGreatDoor
open Tryz
namespace Ab
namespace Sg
open Cp
variable {N n:Nat} {fnl:List Nm}{m:Nat}
theorem zFP{s l:List Nm}(hs:Sl m s)(h:∀ x∈l,x∈zFv)(g:List Nm):zai s (zaH l g)=[]:=zCs hs fun x hx=>h x (zaN.1 hx).1
variable {e:Th.Ex}{sl:List Nm}
theorem zFE(h1:Dp n e)(h2:Dp (N+1) e)(h3:wt (N+1) e<=16)(bl:List (Nat × List Ins)):∃ JB,(work (free (N+1)) fnl n e 0 ⟨bl,sl,[]⟩).blocks=bl++JB/\JB.length<=140:=by
 obtain ⟨⟨⟨JB,e1,_⟩,_⟩,_⟩:=zbC (M:=16) (N+1) fnl (by omega) n e 0 ⟨bl,sl,[]⟩ h1 h2 h3;have hc:=(zaK 16 (N+1) fnl n e 0 ⟨bl,sl,[]⟩ h2 h3).2.2;refine ⟨JB,e1,?_⟩;rw[e1]at hc;simp only[zyT]at hc;omega
variable {JN:Th.Ex}
theorem noB{bn:Th.Ex}(h5:e.kind=5)(hk:e.kids=[bn,JN])(b1:bn.kind=2)(b2:bn.tok.s=[98])(ak:∀ x∈free (N+1) JN,x∈zFv)(aD:Dp n e)(aB:Dp (N+2) e)(bL:wt (N+2) e<=16):NoL fnl (N+1) n 1 0 [[98]] e:=fun JL cc=>by
 have JR:Sl 1 ([[98]]:List Nm):=⟨rfl,by simp[zFv,Sm.name]⟩;have hh:zai [[98]] (free (N+2) e)=[[98]]:=by
  rw[free,if_neg (by omega),if_neg (by omega),if_pos (.inl h5),hk];simp only[fr_2 b1,b2];unfold union;rw[zFr,zFP JR ak];decide
 obtain ⟨bl,w2,w0⟩:=zFE (fnl:=fnl) (N:=N+1) (sl:=[[98]]) aD aB bL JL;refine ⟨[.push 0,.close (JL++bl).length 1],bl++[(1,(work (free (N+2)) fnl n e 0 ⟨JL,[[98]],[]⟩).code)],?_,by simp;omega,fun hf cd Q fns g1 _ g3 h S fr ws f W F nx is m1 m2 l8 R k=>?_⟩
 ·unfold zaI zal Bs.zhD;rw[if_neg (by omega),if_neg (by omega),if_neg (by omega)];simp only[hh,List.reverse_cons,List.reverse_nil,zzb];rw[if_neg (by omega),if_neg (by omega)];simp only[w2,Bs.zak,List.reverse_cons,List.reverse_nil,zzb,zz2,List.foldl_nil];rw[zCM (i:=0) (by show za9 [[98]] [98]=some 0;decide)];simp[Bs.drop,Bs.push]
 ·have hl:=(zyL.1 g3.right.one).1;have ew:ws=[]:=zzn.1 m2;subst ew;obtain ⟨w,rfl⟩:∃ w,fr=[w]:=List.length_eq_one_iff.1 (by simpa using m1);obtain ⟨a,rfl⟩:=l8 w (by simp);simp only[zzS]at R k ⊢;refine zCn (x:=.ad a) (W:=W+5) (F:=F+1) (by omega) (by rw[zCN];rfl) R fun f R=>?_
  refine zF1 (W:=W) (F:=F) (by rw[zyT];omega) (R.less (by omega) (by omega)) fun f R=>k _ _ f (by simp) (fun i hi=>zzc hi) R
variable {N n:Nat} {fnl:List Nm}
theorem zGs{ea eb a1:Th.Ex}{JL JM:List (Nat × List Ins)}{JO:List Ins}(h8:e.kind=8)(hn:Th.texts e.names=[[97],[98]])(ka:ea.kind=5)(kb:eb.kind=4)(nb:Th.texts eb.names=[[99]])(cb:eb.kids=[a1])(k1:a1.kind=2)(k2:a1.tok.s=[97])(ha:zai [[97],[98]] (free (N+1) ea)=[[98]])(hb:zai [[97],[98]] (free (N+1) eb)=[[97]])(w1:(work (free (N+1)) fnl (n+1) ea 0 ⟨JL,[[98]],[]⟩).blocks=JL++JM)(w2:(work (free (N+1)) fnl (n+1) ea 0 ⟨JL,[[98]],[]⟩).code=JO):
  zdq (work (free (N+1)) fnl (n+1)) (free (N+1)) fnl e [ea,eb] ⟨JL,[],[]⟩=⟨JL++JM++[(1,JO)]++[aB],[[97],[98]],[.hold (JL++JM).length 1,.hold (JL++JM++[(1,JO)]).length 1,.push 1,.fill 0 1,.push 0,.fill 1 1]⟩:=by
 have c1:zal (work (free (N+1)) fnl (n+1)) (free (N+1)) ⟨JL,[[97],[98]],[]⟩ ea=(⟨JL++JM++[(1,JO)],[[97],[98]],[]⟩,(JL++JM).length,[[98]]):=by
  unfold zal Bs.zhD;simp only[ha];rw[if_neg (by omega),if_neg (by omega)];simp only[List.reverse_cons,List.reverse_nil,zzb,w1,w2];rfl
 have J8:∀ bl,work (free (N+1)) fnl (n+1) a1 0 ⟨bl,[[99],[97]],[]⟩=⟨bl,[[99],[97]]++[[]],[.push 1,.zci 1,.enter]⟩:=fun bl=>by
  rw[zD8 k1,k2,zCM (i:=1) (by show za9 [[99],[97]] [97]=some 1;decide)];rfl
 have c2:∀ cc,zal (work (free (N+1)) fnl (n+1)) (free (N+1)) ⟨JL++JM++[(1,JO)],[[97],[98]],cc⟩ eb=(⟨JL++JM++[(1,JO)]++[aB],[[97],[98]],cc⟩,(JL++JM++[(1,JO)]).length,[[97]]):=fun cc=>by
  unfold zal Bs.zhD;simp only[hb];rw[if_pos kb,cb,nb];simp only[List.reverse_cons,List.reverse_nil,zzb,zy7,J8];rfl
 unfold zdq;rw[if_pos h8,hn];simp only[zzb,makeAll,c1,Bs.write,c2];rfl
variable {N n:Nat} {fnl:List Nm}
theorem zFV{s A B:List Nm}(hs:Sl m s)(h:∀ x∈A,x∈zFv):zai s (union A B)=zai s B:=by
 unfold union;rw[zFr,zCs hs h,zzb];unfold zai zaH;rw[List.filter_filter];refine List.filter_congr fun x hx=>?_
 cases hx:(za9 s x).isSome with
 |false=>rfl
 |true=>
  have:x ∉ A:=fun ha=>by
   rw[zca.2 (fun hm=>hs.2 x hm (h x ha))]at hx;cases hx
  simp[this]
theorem zGQ{s C:List Nm}(hs:Sl m s)(h:∀ x∈C,x∈zFv)(hb:(za9 s [98]).isSome=true):zai s (union [[98]] C)=[[98]]:=by
 unfold union;rw[zFr,zFP hs h];simp[zai,hb]
variable {x:Sm}{s d f0 g ey:Th.Ex}
theorem way5{c ea JY eb a1:Th.Ex}{th tt:Th.Tok}(h8:e.kind=8)(hn:Th.texts e.names=[[97],[98]])(hk:e.kids=[c,ea,eb])(c9:c.kind=9)(ca:c.zao=[(2,[th,tt])])(jd:th.s=[104])(mi:tt.s=[116])(ck:c.kids=[s,d])(s1:s.kind=2)(s2:s.tok.s=[97])(d1:d.kind=2)(d2:d.tok.s=[104])(a5:ea.kind=5)(a2:ea.kids=[f0,JY])(a3:f0.kind=5)(a4:f0.kids=[g,ey])(g1:g.kind=3)(g2:g.tag=2)(g3:g.arity=2)(kb:eb.kind=4)(nb:Th.texts eb.names=[[99]])(cb:eb.kids=[a1])(k1:a1.kind=2)(k2:a1.tok.s=[97])(hy:Hld N fnl (n+3) x ey)(nT:NoL fnl N (n+3) 1 0 [[98]] JY)(ha:zai [[97],[98]] (free (N+1) ea)=[[98]])(hb:zai [[97],[98]] (free (N+1) eb)=[[97]]):zFw N fnl (n+5) x e:=fun JL=>by
 have JR:Sl 1 ([[98]]:List Nm):=⟨rfl,by simp[zFv,Sm.name]⟩;obtain ⟨JO,JM,u0,u1,u2,u3⟩:=zFD (n:=n) (N:=N) (fnl:=fnl) (B0:=JL) JR a5 a2 a3 a4 g1 g2 g3 hy (below:=0) nT [];rw[zzb]at u2;have hin:=zGs (n:=n+3) (N:=N) (fnl:=fnl) (e:=e) h8 hn a5 kb nb cb k1 k2 ha hb u1 u2;obtain ⟨B1,cU⟩:∃ B,B=JL++JM++[(1,JO)]++[aB]:=⟨_,rfl⟩;rw[<-cU]at hin;have ed:work (free (N+1)) fnl (n+3) d 0 ⟨B1,[[116],[104]],[]⟩=⟨B1,[[116],[104]]++[[]],[.push 1,.zci 1,.enter]⟩:=by
  rw[zD8 d1,d2,zCM (i:=1) (by show za9 [[116],[104]] [104]=some 1;decide)];rfl
 have mJ:Cp.armsOf (work (free (N+1)) fnl (n+3)) [] c.zao [d] ⟨B1,([[]]:List Nm).reverse,[]⟩ []=(⟨B1++[aB],[[]],[]⟩,[(2,2,B1.length)]):=by
  rw[ca];simp only[Cp.armsOf,Bs.zhD,Th.texts,zza,List.map_nil,zzS,List.reverse_cons,List.reverse_nil,zzb,zy7,jd,mi,ed];rfl
 have iZ:([]:List Nm)=zai [[97],[98]] (zas (free (N+1)) c.zao [d] []):=by
  rw[ca];simp only[zas,Th.texts,zza,List.map_nil,jd,mi,fr_2 d1,d2];decide
 obtain ⟨K0,zO⟩:∃ K,K=(B1++[aB]).length:=⟨_,rfl⟩;have ew:work (free (N+1)) fnl (n+5) e 0 ⟨JL,[],[]⟩=⟨B1++[aB]++[(1,[.choose [(2,2,B1.length)]])],[[97],[98],[],[]],[.hold (JL++JM).length 1,.hold (JL++JM++[(1,JO)]).length 1,.push 1,.fill 0 1,.push 0,.fill 1 1,.wait K0,.push 0,.zci 2,.enter]⟩:=by
  rw[work,if_neg (by omega),if_neg (by omega),if_neg (by omega),if_pos (.inr h8),if_pos rfl,zei hk,hin];rw[zfk fnl (n+3) 0 _ c9 ck (names:=[]) iZ mJ.symm,zD8 s1,s2,zCM (i:=0) (by show za9 [[97],[98],[]] [97]=some 0;decide),zO];rfl
 rw[ew];refine ⟨_,JM++[(1,JO)]++[aB]++[aB]++[(1,[.choose [(2,2,B1.length)]])],rfl,by rw[cU];simp,by simp;omega,fun hf cd Q fns q1 q2 q3 h st f W F nx o R K=>?_⟩;have hlen:=(zyL.1 (o 5 (by omega))).1;have gp:=q3.left.left.left.left;have gA:=q3.left.left.left.right.one;have gB:=q3.left.left.right.one;have ga:=q3.left.right.one;have gc:=q3.right.one;have eA:JL.length+JM.length=(JL++JM).length:=by simp
 have eB:JL.length+(JM++[(1,JO)]).length=(JL++JM++[(1,JO)]).length:=by simp
 have J7:JL.length+(JM++[(1,JO)]++[aB]).length=B1.length:=by rw[cU];simp
 have J9:JL.length+(JM++[(1,JO)]++[aB]++[aB]).length=K0:=by rw[zO,cU];simp
 rw[eA]at gA;rw[eB]at gB;rw[J7]at ga;rw[J9]at gc;generalize (JL++JM).length=A at *;generalize (JL++JM++[(1,JO)]).length=B at *;have Kj:=(zyL.1 gA).1;have Kk:=(zyL.1 gB).1;have aN:=(zyL.1 gc).1;have hg:=q1.1.1;refine zFO (W:=W+30*x.ct+97) (F:=F+30*x.ct+99) (by omega) (R.less (by omega) (by omega)) fun f R=>?_
 refine zFO (W:=W+30*x.ct+94) (F:=F+30*x.ct+98) (by omega) R fun f R=>?_
 have l1:(h++[Nd.clo A [h.length]]).length=h.length+1:=by simp
 rw[l1]at R ⊢;obtain ⟨h2,kZ⟩:∃ h2,h2=h++[Nd.clo A [h.length]]++[.clo B [h.length+1]]:=⟨_,rfl⟩;rw[<-kZ]at R ⊢;have z0:h2[h.length]?=some (.clo A [h.length]):=by rw[kZ];simp
 have z1:h2[h.length+1]?=some (.clo B [h.length+1]):=by rw[kZ];simp
 have z2:h2.length=h.length+2:=by rw[kZ];simp
 have z3:∀ i,i<h.length->h2[i]?=h[i]?:=fun i hi=>by rw[kZ,zzk,zzc hi]
 clear kZ;rw[show st++[Wd.ad h.length]++[.ad (h.length+1)]=st++[.ad h.length,.ad (h.length+1)] by simp]at R ⊢;refine zCn (x:=.ad (h.length+1)) (W:=W+30*x.ct+93) (F:=F+30*x.ct+97) (by omega) (by rw[zCN];rfl) R fun f R=>?_
 refine zFN (a:=h.length) (b:=A) (x:=h.length) (F:=F+30*x.ct+96) (by omega) (by rw[zzk,zCN];rfl) z0 R fun f R=>?_
 refine zCn (x:=.ad h.length) (W:=W+30*x.ct+92) (F:=F+30*x.ct+95) (by omega) (by rw[zCN];rfl) R fun f R=>?_
 refine zFN (a:=h.length+1) (b:=B) (x:=h.length+1) (F:=F+30*x.ct+94) (by omega) (by rw[zzk,zCN];rfl) (by rw[zAo (by omega)];exact z1) R fun f R=>?_
 obtain ⟨h3,ld⟩:∃ h3,h3=(h2.set h.length (.clo A [h.length+1])).set (h.length+1) (.clo B [h.length]):=⟨_,rfl⟩;rw[<-ld]at R ⊢;have y0:h3[h.length]?=some (.clo A [h.length+1]):=by rw[ld,zAo (by omega),List.getElem?_set_self (by omega)]
 have y2:h3.length=h.length+2:=by rw[ld,zy6,zy6,z2]
 have y3:∀ i,i<h.length->h3[i]?=h[i]?:=fun i hi=>by rw[ld,zAo (by omega),zAo (by omega),z3 i hi]
 clear ld z0 z1 z2 z3;refine zCw (W:=W+30*x.ct+91) (F:=F+30*x.ct+93) (by omega) R fun f R=>?_
 refine zCn (x:=.ad h.length) (W:=W+30*x.ct+90) (F:=F+30*x.ct+92) (by omega) (by rw[zzk,zCN];rfl) R fun f R=>?_
 rw[show st++[Wd.ad h.length,.ad (h.length+1)]++[.mk 1 K0]++[.ad h.length]=st++[.ad h.length,.ad (h.length+1)]++[.mk 1 K0,.ad h.length] by simp]at R ⊢;refine zCk (F:=F+30*x.ct+91) rfl R fun f R=>?_
 rw[show st++[Wd.mk 1 K0,.ad h.length]=st++[.mk 1 K0]++[.ad h.length] by simp]at R ⊢;refine zFz (W:=W+30*x.ct+88) (F:=F+30*x.ct+90) y0 (zEg gA) R fun f R=>zB4 gA ?_
 have aA:((st++[Wd.mk 1 K0]++[Wd.ad h.length,.mk 0 0,.ad (h.length+1)]).length:Int)-(1:Nat)=((st++[Wd.mk 1 K0,.ad h.length,.mk 0 0]).length:Int):=by simp only[zyT,zy8,zzm];omega
 rw[aA];rw[show st++[Wd.mk 1 K0]++[.ad h.length,.mk 0 0,.ad (h.length+1)]=st++[.mk 1 K0,.ad h.length,.mk 0 0]++[.ad (h.length+1)]++[] by simp]at R ⊢;refine u3 hf cd Q fns q1 q2 gp (h3.set h.length .busy) (st++[.mk 1 K0,.ad h.length,.mk 0 0]) [.ad (h.length+1)] [] f (W+30*x.ct+58) (F+30*x.ct+60) _ rfl rfl (by simp) (fun k hk=>by rw[zAo (by omega),y3 k (by omega)];exact o k hk) R fun h' a p dn f nd nx bl p1 p2 p3 p4 hx p5 R=>?_
 rw[zy6]at p1 p2 p3;have JZ:h'[h.length]?=some .busy:=by rw[p2 _ (by omega),List.getElem?_set_self (by omega)]
 have En:dn≠h.length:=fun e=>by rw[e,JZ]at p5;cases p5
 have rY:dn<h'.length:=(zyL.1 p5).1;rw[show st++[Wd.mk 1 K0,.ad h.length,.mk 0 0]++[]++[.ad dn]=st++[.mk 1 K0]++[.ad h.length,.mk 0 0,.ad dn] by simp]at R ⊢;refine zEm JZ p5 ?_;have R2:Res hf Q (h'.set h.length (.fwd dn)) (st++[.ad dn]) fns f (W+30*x.ct+58) (F+30*x.ct+60):=(R.set h.length (n:=.fwd dn) (by simpa [inN] using rY) rfl).stack (fun c hc=>by simp at hc ⊢;rcases hc with hc|hc <;> simp[hc]) (by simp);rw[zzk];refine zCG (by omega) (zB4 gc ?_);have bD:((st++[Wd.ad dn]).length:Int)-(1:Nat)=(st.length:Int):=by simp only[zyT,zy8,zzm];omega
 rw[bD];refine zFk (fs:=[p,a]) (W:=W+30*x.ct+20) (F:=F+30*x.ct+20) (by rw[zAo (Ne.symm En)];exact p5) (R2.less (by simp) (by omega)) fun f R=>zB4 ga ?_
 have xi:((st++([p,a].map Wd.ad).reverse).length:Int)-(2:Nat)=(st.length:Int):=by simp
 rw[xi];have hs:∀ i,i<h.length->(h'.set h.length (.fwd dn))[i]?=h[i]?:=fun i hi=>by rw[zAo (by omega),p2 i (by omega),zAo (by omega),y3 i hi]
 exact zFu (L:=h.length) rfl (by rw[zAo (by omega)];exact p4) hx (FO.of o hs) (by omega) (by omega) (R.less (by omega) (by omega)) (K.le (by rw[zy6];omega) hs)
abbrev O4:=Int × Int × Int × Int
def smR (v:Option Int):O4:=match v with|some n=>(1,n,0,0)|none=>(3,0,0,0)
def May (v:Option Int) (poor:Prop) (r:O4):Prop:=r=smR v\/(poor/\(r=(4,0,0,0)\/r=(5,0,0,0)))
def QQ (v:Option Int) (poor:Prop):Except Nat Ma->Prop
 |.error k=>May v poor (k,0,0,0)
 |.ok A=>∃ r,A.told=some r/\May v poor r
variable {hf fuel nf main:Nat} {cd:List (Nat × List Ins)} {Q:Except Nat Ma->Prop}
theorem zDB{P:Ma->Prop}:∀ (k i:Nat) (h:List Nd) (fns:List Nat) (f W F:Nat),i+k<=1000000000->Res hf Q h [] fns f (W+k) F->h.length=i ->
  (Res hf Q (h++(List.range' i k).map fun j=>.clo j []) [] (fns++List.range' i k) f W F->P ⟨h++(List.range' i k).map fun j=>.clo j [],[],fns++List.range' i k,f,0,0⟩)->Aft hf cd Q P (Ma.zbm hf i k ⟨h,[],fns,f,0,0⟩)
 |0,i,h,fns,f,W,F,_,R,_,k=>.inr ⟨⟨h,[],fns,f,0,0⟩,rfl,by simpa using k (by simpa using R)⟩
 |n+1,i,h,fns,f,W,F,hi,R,hl,k=>by
  rw[Ma.zbm,if_pos (by omega)];refine zCh (A:=⟨h,[],fns,f,0,0⟩) (R.less (by omega) (zyN _)) ?_;have R1:Res hf Q (h++[.clo i []]) [] (fns++[h.length]) f (W+n) F:=by
   have R2:=R.node (n:=.clo i []) (W':=W+n) rfl (by simp[sz];omega);exact ⟨⟨R2.1.1,fun a ha=>by rcases zzi.1 ha with ha|ha;exact R2.1.2.1 a ha;cases zze.1 ha;simp,R2.1.2.2⟩,R2.2⟩
  refine zDB n (i+1) _ _ f W F (by omega) R1 (by simp[hl]) fun R3=>?_
  have e1:h++[Nd.clo i []]++(List.range' (i+1) n).map (fun j=>Nd.clo j [])=h++(List.range' i (n+1)).map fun j=>.clo j []:=by simp[List.range'_succ]
  have e2:fns++[h.length]++List.range' (i+1) n=fns++List.range' i (n+1):=by simp[List.range'_succ,hl]
  rw[e1,e2]at R3 ⊢;exact k R3
theorem zEZ{is:List Ins}{z:Nat}{poor:Prop}(Av:m<=100)(hc:cd[m]?=some (0,is))(hr:∀ (Q:Except Nat Ma->Prop) (fns:List Nat),(∀ k,k<=m->fns[k]?=some k)->∀ (h:List Nd) (st:List Wd) (f W F:Nat) (nx:Int),(∀ k,k<m->h[k]?=some (.clo k []))->Res hf Q h st fns f (W+z) (F+z)->zD9 hf cd Q x.val h.length h st fns W F->Ex hf cd Q is ⟨h,st,fns,f,nx,st.length⟩)(hp:poor\/(z+300<=hf/\z+300<=fuel)):∃ g r,zwX hf cd (m+1) m fuel g=some r/\May x.val poor r:=by
 have q4:poor->QQ x.val poor (.error 4):=fun p=>.inr ⟨p,.inl rfl⟩
 have q5:poor->QQ x.val poor (.error 5):=fun p=>.inr ⟨p,.inr rfl⟩
 have R0:Res hf (QQ x.val poor) [] [] [] fuel (z+150+(m+1)) (z+150):=⟨⟨by simp,by simp,by simp⟩,hp.imp q4 (fun h=>by simp;omega),hp.imp q5 (fun h=>by omega)⟩;have key:Aft hf cd (QQ x.val poor) (Fin hf cd (QQ x.val poor)) ((Ma.new fuel).start hf (cd.map Prod.fst) (m+1) m):=by
  have:=zDB (cd:=cd) (P:=fun A=>Aft hf cd (QQ x.val poor) (Fin hf cd (QQ x.val poor)) (ask hf 1 A fun A2=>match A2.fns[m]? with|none=>none|some a=>Ma.enter hf (cd.map Prod.fst) { A2 with st:=A2.st++[.ad a] })) (m+1) 0 [] [] fuel (z+150) (z+150) (by omega) R0 rfl (fun R=>?_)
  ·unfold Ma.start;show Aft hf cd _ _ (match Ma.zbm hf 0 (m+1) ⟨[],[],[],fuel,0,0⟩ with|none=>none|some (.error k)=>some (.error k)|some (.ok A1)=>ask hf 1 A1 fun A2=>match A2.fns[m]? with|none=>none|some a=>Ma.enter hf (cd.map Prod.fst) { A2 with st:=A2.st++[.ad a] });rcases this with ⟨k,e1,e2⟩|⟨A,e1,e2⟩
   ·rw[e1];exact .inl ⟨k,rfl,e2⟩
   ·rw[e1];exact e2
  ·simp only[zzb]at R ⊢;generalize hh:(List.range' 0 (m+1)).map (fun j=>Nd.clo j [])=h at *;have hlen:h.length=m+1:=by rw[<-hh];simp
   have hg:∀ i,i<=m->h[i]?=some (.clo i []):=fun i hi=>by rw[<-hh,List.getElem?_map,List.getElem?_range' (by omega)];simp
   have fj:(List.range' 0 (m+1))[m]?=some m:=by simp
   have hA:∀ k,k<=m->(List.range' 0 (m+1))[k]?=some k:=fun k hk=>by rw[List.getElem?_range' (by omega)];simp
   generalize List.range' 0 (m+1)=fns at *;refine zCh (A:=⟨h,[],fns,fuel,0,0⟩) (R.less (by omega) (zyN _)) ?_;simp only[fj];have ll:((⟨h,[]++[Wd.ad m],fns,fuel,0,0⟩:Ma).st.getLast?)=some (.ad m):=rfl;unfold Ma.enter;rw[ll];simp only;rw[zCE (hg m (zyN _)) rfl,hg m (zyN _)];simp only;rw[zEg hc];simp only;rw[if_pos (by simp)];unfold Ma.zdy;have R1:Res hf (QQ x.val poor) h [.ad m] fns fuel (z+149) (z+150):=R.stack (fun a ha=>by cases zze.1 ha;exact .inr (by omega)) (by simp;omega);refine zCh (A:=⟨h,[.ad m],fns,fuel,0,0⟩) (R1.less (show 1+([]:List Nat).length<=z+149 by simp) (zyN _)) ?_;refine .inr ⟨⟨h.set m .busy,[.ad m,.mk 0 0],fns,fuel,m,0⟩,by simp[okA],zB4 hc ?_⟩;have R2:Res hf (QQ x.val poor) (h.set m .busy) [.ad m,.mk 0 0] fns fuel (100+z) (100+z):=((R1.set m (n:=.busy) rfl rfl).less (zyN _) (by omega:100+z<=z+150)).stack (fun a ha=>by simp at ha;exact .inl (by simp[ha])) (by simp;omega);have:=hr (QQ x.val poor) fns hA (h.set m .busy) [.ad m,.mk 0 0] fuel 100 100 m (fun k hk=>by rw[zAo (by omega)];exact hg k (by omega)) R2 ⟨fun e=>.inl (by rw[e];rfl),fun n hn h' a f nx bl p1 p2 p3 R=>?_⟩
   ·simpa using this
   ·have hb:h'[m]?=some .busy:=by rw[p2 m (by simp[hlen]),List.getElem?_set_self (by omega)]
    have uN:a≠m:=fun e=>by rw[e,hb]at p3;cases p3
    have:=zEm (hf:=hf) (cd:=cd) (Q:=QQ x.val poor) (h:=h') (st:=[]) (fns:=fns) (f:=f) (nx:=nx) (bl:=bl) (c:=m) (v:=a) hb p3 (zER ⟨smR x.val,?_,.inl rfl⟩)
    ·simpa using this
    ·rw[hn];unfold Ma.told;simp[zAo (Ne.symm uN),p3,smR]
 rcases key with ⟨k,e1,e2⟩|⟨A,e1,g,r,e2,e3⟩
 ·refine ⟨0,(k,0,0,0),?_,e2⟩;unfold zwX;rw[e1]
 ·refine ⟨g,?_⟩;unfold zwX;rw[e1];simp only[e2];cases r with
  |error k=>exact ⟨_,rfl,e3⟩
  |ok A2=>
   obtain ⟨r,e4,e5⟩:=e3;exact ⟨r,e4,e5⟩
end Sg
end Ab
end Go.Proofs.YtgahgkddaljmkaaGreatDoor
namespace Go.Proofs.YtgahgkddaljmkaaGreatDoor
open Tryz
namespace Sg
open Th Ab.Sg
def few:List UInt8:=[97,100,100,32,120,32,121,32,61,32,120,32,43,32,121,59,32,115,117,98,32,120,32,121,32,61,32,120,32,45,32,121,59,32,109,117,108,32,120,32,121,32,61,32,120,32,42,32,121,59,32,100,105,118,32,120,32,121,32,61,32,120,32,47,32,121,59,32]
def zEd:List UInt8:=[109,97,105,110,32,61]
def lnT (nm:List UInt8) (sg:UInt8) (p:Nat):List Tok:=[⟨2,nm,p⟩,⟨2,[120],p+4⟩,⟨2,[121],p+6⟩,⟨4,[61],p+8⟩,⟨2,[120],p+10⟩,⟨4,[sg],p+12⟩,⟨2,[121],p+14⟩,⟨4,[59],p+15⟩]
def zGN:List Tok:=lnT [97,100,100] 43 0++(lnT [115,117,98] 45 17++(lnT [109,117,108] 42 34++lnT [100,105,118] 47 51))
def zEY (p:Nat):List Tok:=[⟨2,zcO,p⟩,⟨4,[61],p+5⟩]
def lnL (nm:List UInt8) (sg:UInt8) (p:Nat):zbr:=⟨⟨2,nm,p⟩,[⟨2,[120],p+4⟩,⟨2,[121],p+6⟩],ziR ⟨4,[sg],p+12⟩ (zbW ⟨2,[120],p+10⟩) (zbW ⟨2,[121],p+14⟩)⟩
def four:List zbr:=[lnL [97,100,100] 43 0,lnL [115,117,98] 45 17,lnL [109,117,108] 42 34,lnL [100,105,118] 47 51]
theorem zCC(n:Nat)(all:List (List UInt8)):∀ (l m:List zbr) (seen:List (List UInt8)),zbL n all seen (l++m)=zbL n all seen l++zbL n all (seen++zaq l) m
 |[],m,seen=>by simp[zbL,zaq]
 |x::l,m,seen=>by
  simp only[zy7,zbL,zCC n all l m,zaq,zza];simp
def fB (c:Nat):Nat × List Ins:=(2,[.push 0,.wait c,.push 1,.zci 3,.enter])
theorem zCQ(fr:Ex->List Cp.Nm)(fns:List Cp.Nm)(n:Nat):∀ (l m:List zbr) (i:Nat) (bl:List (Nat × List Ins)),Cp.lines fr fns n i (l++m) bl=Cp.lines fr fns n (i+l.length) m (Cp.lines fr fns n i l bl)
 |[],m,i,bl=>rfl
 |x::l,m,i,bl=>by
  simp only[zy7,Cp.lines];rw[zCQ fr fns n l m,zy8,show i+(l.length+1)=i+1+l.length by omega]
end Sg
end Go.Proofs.YtgahgkddaljmkaaGreatDoor
namespace Go.Proofs.YtgahgkddaljmkaaGreatDoor
open Tryz
open Th
theorem zDg:∀ (m q:Nat),zdN (m+1) [59] q=[⟨4,[59],q⟩,⟨0,[],q+1⟩]
 |0,q=>by kernel_rfl
 |m+1,q=>by kernel_rfl
end Go.Proofs.YtgahgkddaljmkaaGreatDoor
