/- SmV .. SmD -/
import Derived.Test.YtgahgkddaljmkaaGreatDoorR26
set_option maxRecDepth 100000
set_option maxHeartbeats 4000000
namespace Go.Proofs.YtgahgkddaljmkaaGreatDoor
open Tryz
namespace Sg
open Th Ab.Sg
variable {k:Nat}{ar:List (List UInt8)}
theorem zCO{N:Nat}{d:Ex}(B:Bd k d)(hp:[112]∈ar)(hq:[113]∈ar):zar N d ar=[]:=by
 obtain ⟨b1,_,l,r,b2,b3,b4,b5,b6⟩:=B;have nm:∀ (M:Nat) (e:Ex) (s:List UInt8),e.kind=2->e.tok.s=s->s∈ar->zar M e ar=[]:=fun M e s h1 h2 h3=>by
  cases M with
  |zero=>rfl
  |succ M=>rw[zar,if_pos h1,h2,if_pos (by simpa using h3)]
 cases N with
 |zero=>rfl
 |succ N=>
  rw[zar,if_neg (by omega),if_pos (.inr b1),b2];simp only[List.headD_cons,List.tail_cons];rw[nm N l _ b3 b4 hp,nm N r _ b5 b6 hq];rfl
theorem zCS{l:List Tok}(h:texts l=[[112],[113]]):∃ p q:Tok,l=[p,q]/\p.s=[112]/\q.s=[113]:=by
 obtain ⟨p,l1,rfl,h1,h2⟩:=List.map_eq_cons_iff.1 h;obtain ⟨q,l2,rfl,h3,h4⟩:=List.map_eq_cons_iff.1 h2;cases List.map_eq_nil_iff.1 h4;exact ⟨p,q,rfl,h1,h3⟩
theorem zB6:∀ (x:Sm) (N:Nat) (e:Ex) (ar:List (List UInt8)),Is x e->(∀ k,k<4->Sm.name k∈ar)->zar N e ar=[]
 |_,0,_,_,_,_=>rfl
 |.num v,N+1,e,ar,⟨h,_⟩,_=>by
  rw[zar,if_neg (by omega),if_neg (by omega),if_neg (by omega),if_neg (by omega),if_neg (by omega),if_neg (by omega)]
 |.op Ij k a b,N+1,e,ar,⟨hk,h⟩,ha=>by
  rcases h with ⟨h1,_,l,r,h2,h3,h4⟩|⟨h1,hn,d,l,r,h2,h3,h4,h5⟩|⟨h1,f,g,l,r,h2,h3,h4,h5,h6,h7⟩
  ·rw[zar,if_neg (by omega),if_pos (.inr h1),h2];simp only[List.headD_cons,List.tail_cons];rw[zB6 a N l ar h3 ha,zB6 b N r ar h4 ha];rfl
  ·obtain ⟨p,q,Iu,p1,q1⟩:=zCS hn;rw[zar,if_neg (by omega),if_neg (by omega),if_neg (by omega),if_pos h1,h2,hn,Iu];simp only[List.headD_cons,List.tail_cons,zbq];rw[zB6 a N l ar h4 ha,zB6 b N r ar h5 ha,zCO h3 (by simp) (by simp),p1,q1];rfl
  ·rw[zar,if_neg (by omega),if_pos (.inl h1),h2];simp only[List.headD_cons,List.tail_cons];rw[zB6 b N r ar h6 ha];cases N with
   |zero=>rfl
   |succ N=>
    rw[zar,if_neg (by omega),if_pos (.inl h3),h4];simp only[List.headD_cons,List.tail_cons];rw[zB6 a N l ar h5 ha];cases N with
    |zero=>rfl
    |succ N=>
     rcases h7 with ⟨g1,g2⟩|⟨g1,g2,d,g3,g4⟩
     ·rw[zar,if_pos g1,g2,if_pos (by simpa using ha k hk)];rfl
     ·obtain ⟨p,q,Iu,p1,q1⟩:=zCS g2;rw[zar,if_neg (by omega),if_neg (by omega),if_pos g1,g3,g2,Iu];simp only[List.headD_cons];rw[zCO g4 (by simp) (by simp)];simp[zjc,p1,q1]
theorem zDf:∀ (x:Sm) (d:Nat),Sm.Ok d x->(tk x).length<=x.text.length/\4*x.ct<=x.text.length+3
 |.num v,d,ho=>by
  have hv:v<40:=by cases d <;> exact ho
  have:=zzA.2 (zC7 hv).1;simp only[tk,Sm.text,Sm.ct,zy0];omega
 |.op Ij k a b,0,ho=>ho.elim
 |.op Ij k a b,d+1,⟨_,_,hk,oa,ob⟩=>by
  have ia:=zDf a d oa;have ib:=zDf b d ob;have s1:=Sm.zCu k;have n1:=Sm.zmw k;rw[tk,Sm.text,Sm.ct];split
  ·simp[Sm.par,s1];omega
  ·split
   ·simp[Sm.par,n1];omega
   ·split
    ·simp[Sm.par,s1];omega
    ·simp[Sm.par,s1];omega
def zE9:List (List UInt8):=[Sm.name 0,Sm.name 1,Sm.name 2,Sm.name 3,[108,111,111,112],[107],zcO]
theorem zGa(hk:k<4):zE9.idxOf (Sm.name k)=k:=by
 obtain rfl|rfl|rfl|rfl:k=0\/k=1\/k=2\/k=3:=by omega
 all_goals decide
theorem zGT{l:List (List UInt8)}(hk:k<4):Sm.name k∈zE9++l:=by
 refine List.mem_append_left _ ?_;obtain rfl|rfl|rfl|rfl:k=0\/k=1\/k=2\/k=3:=by omega
 all_goals decide
theorem zFa{T:List Tok}{l:List (Nat × List UInt8)}(h:T.map sh=l):∃ P,T=put l 0 P:=
 ⟨fun i=>(T[i]?.map Tok.at_).getD 0,zFJ T _ 0 _ h (fun j t ht=>by simp[ht])⟩
variable {n:Nat}{e:Ex}
theorem zFq{a:Tok}{Z:List Tok}(hz:Atm (zdJ (n+1)) (a::Z) e)(ha:a.s≠zqP/\a.s≠zjO/\a.s≠[92])(outer:Bool){R:List Tok}(S:Stop R):zdJ (n+2) outer ⟨a::Z++R,none⟩=some (e,⟨R,none⟩):=by
 show zg7 (zdJ (n+1)) (n+1) outer ⟨a::(Z++R),none⟩=_;rw[zCb ha.1 ha.2.1 ha.2.2];exact zCp (zCo (X:=a::Z) hz S.facts.1) S
theorem zGc:([40]:List UInt8)≠zqP/\([40]:List UInt8)≠zjO/\([40]:List UInt8)≠[92]:=by decide
theorem zFR(P:Nat->Nat):∀ k,∃ a Z,noT k P=a::Z/\a.s≠zqP/\a.s≠zjO/\a.s≠[92]
 |1=>⟨_,_,rfl,show ([108,111,111,112]:List UInt8)≠zqP/\([108,111,111,112]:List UInt8)≠zjO/\([108,111,111,112]:List UInt8)≠[92] by decide⟩
 |0=>⟨_,_,rfl,zGc⟩
 |2=>⟨_,_,rfl,zGc⟩
 |3=>⟨_,_,rfl,zGc⟩
 |4=>⟨_,_,rfl,zGc⟩
 |_+5=>⟨_,_,rfl,zGc⟩
variable {x:Sm}{d:Nat}
theorem zFi(ho:Sm.Ok d x)(hn:4*x.ct<=n){A:List Tok}(h:A.map sh=tkP (tk x)):∃ e a Z,A=a::Z/\(a.s≠zqP/\a.s≠zjO/\a.s≠[92])/\Is x e/\Atm (zdJ n) A e:=by
 obtain ⟨lp,T,rp,rfl,h1,h2,h3⟩:=zCj h;obtain ⟨e,ie,re⟩:=read x d ho n hn T h2;exact ⟨e,lp,_,rfl,by rw[(Prod.mk.inj h1).2];decide,ie,zCi h1 h3 fun R S=>re false R S⟩
theorem zFe(n:Nat)(a b:Ex)(ar:List (List UInt8)):zar (n+1) (zch a b) ar=zar n a ar++zar n b ar:=by simp[zar,zch]
theorem zGy(n:Nat)(a:Ex)(l:List (Nat × List Tok))(b:List Ex)(ar:List (List UInt8)):zar (n+1) (mkCase a l b) ar=zar n a ar++zeG (zar n) ar l b:=by simp[zar,mkCase]
theorem w_let(n:Nat)(l:List Tok)(ps:List Ex)(e:Ex)(ar:List (List UInt8)):zar (n+1) (mkLet false l ps e) ar=zbq (zar n) ar [] l ps++zar n e (ar++texts l):=by simp[zar,mkLet]
theorem w_rec(n:Nat)(l:List Tok)(ps:List Ex)(e:Ex)(ar:List (List UInt8)):zar (n+1) (mkLet true l ps e) ar=zbq (zar n) (ar++texts l) [] l ps++zar n e (ar++texts l):=by simp[zar,mkLet]
theorem zGf{t:Tok}(h:t.s∈ar):zar n (zbW t) ar=[]:=by
 cases n with
 |zero=>rfl
 |succ n=>simp[zar,zbW,h]
theorem zGb(h:[108,111,111,112]∈ar)(n:Nat)(P:Nat->Nat):∀ k,zar (n+3) (noE k P) ar=[]
 |0=>by simp[noE,zar,ziR,mkNum]
 |1=>by simp[noE,zar,zbW,h]
 |2=>by simp[noE,zar,zch,mkNum]
 |3=>by simp[noE,zar,mkCase,mkNum,zeG,zjc]
 |4=>by simp[noE,zar,zch,zcU,mkNum]
 |_+5=>by simp[noE,zar,mkLet,zbW,zbq,texts]
theorem zGp{l:List (List UInt8)}:[108,111,111,112]∈zE9++l:=List.mem_append_left _ (by decide)
def Reads (x:Sm) (T:List Tok):Prop:=∃ e,zFw 1299 zE9 1300 x e/\zar 1300 e (zE9++[])=[]/\∀ R,Stop R->za8 true ⟨R,none⟩=false->zdJ 1000 true ⟨T++R,none⟩=some (e,⟨R,none⟩)
variable {x:Sm} {d k:Nat} {T:List Tok}
theorem hld(n:Nat)(hx:Is x e)(h4:4*x.ct<=n):Hld 1299 zE9 n x e:=zCH hx (code (fun _ hk=>zGa hk) x n 0 0 e hx h4)
theorem iw(hx:Is x e)(N:Nat)(l:List (List UInt8)):zar N e (zE9++l)=[]:=zB6 x N e _ hx (fun _ hk=>zGT hk)
theorem nw(n:Nat)(P:Nat->Nat)(k:Nat)(l:List (List UInt8)):zar (n+3) (noE k P) (zE9++l)=[]:=zGb zGp n P k
theorem lz0(ho:Sm.Ok d x)(hc:4*x.ct<=900)(h:T.map sh=lzK 0 k x):Reads x T:=by
 obtain ⟨A,T,rfl,ha,h⟩:=List.map_eq_append_iff.1 h;obtain ⟨Y,Z,rfl,hy,hz⟩:=List.map_eq_append_iff.1 h;obtain ⟨P,rfl⟩:=zFa ha;obtain ⟨Q,rfl⟩:=zFo hz;obtain ⟨ey,_,_,_,_,iy,ay⟩:=zFi ho (n:=999) (by omega) hy;refine ⟨_,way0 (n:=1296) (e:=zch (zch (zbW ⟨2,[107],P 0⟩) ey) (noE k Q)) rfl rfl rfl rfl rfl rfl (by decide) (hld 1299 iy (by omega)) (zFt (by decide) 1298 1297 Q k),?_,fun R S _=>?_⟩
 ·rw[zFe 1299,zFe 1298,zGf (show [107]∈zE9++[] by decide),iw iy,nw 1296];rfl
 ·simp only[zzk];exact zGg (n:=996) rfl ay (zFn 987 Q k) S true
theorem lz1(ho:Sm.Ok d x)(hc:4*x.ct<=900)(h:T.map sh=lzK 1 k x):Reads x T:=by
 obtain ⟨A,T,rfl,ha,h⟩:=List.map_eq_append_iff.1 h;obtain ⟨Z,T,rfl,hz,h⟩:=List.map_eq_append_iff.1 h;obtain ⟨B,Y,rfl,hb,hy⟩:=List.map_eq_append_iff.1 h;obtain ⟨P,rfl⟩:=zFa ha;obtain ⟨P',rfl⟩:=zFa hb;obtain ⟨Q,rfl⟩:=zFo hz;obtain ⟨ey,a,Y,rfl,a1,iy,ay⟩:=zFi ho (n:=998) (by omega) hy;obtain ⟨b,Z,e1,b1⟩:=zFR Q k;have hz:=zFn 986 Q k;refine ⟨_,way1 (n:=1299) (e:=mkLet false [⟨2,[122],P 1⟩] [noE k Q] ey) rfl rfl rfl (zFt (by decide) 1298 1297 Q k) (code (fun _ hk=>zGa hk) x 1299 0 1 ey iy (by omega)),?_,fun R S _=>?_⟩
 ·rw[w_let 1299,zzk,iw iy];show (([]++zar 1299 (noE k Q) (zE9++[]))++[])++[]=_;rw[nw 1296];rfl
 ·simp only[zzk];rw[e1]at hz ⊢;exact zGh (n:=996) rfl rfl rfl rfl hz b1 (fun o=>zFq ay a1 o S) true
theorem lz2(ho:Sm.Ok d x)(hc:4*x.ct<=900)(h:T.map sh=lzK 2 k x):Reads x T:=by
 obtain ⟨A,T,rfl,ha,h⟩:=List.map_eq_append_iff.1 h;obtain ⟨Y,T,rfl,hy,h⟩:=List.map_eq_append_iff.1 h;obtain ⟨Z,B,rfl,hz,hb⟩:=List.map_eq_append_iff.1 h;obtain ⟨P,rfl⟩:=zFa ha;obtain ⟨P',rfl⟩:=zFa hb;obtain ⟨Q,rfl⟩:=zFo hz;obtain ⟨ey,_,_,_,_,iy,ay⟩:=zFi ho (n:=998) (by omega) hy;refine ⟨_,way2 (n:=1295) (e:=mkCase (zch (zch (zcU 2 2) ey) (noE k Q)) [(2,[⟨2,[97],P' 4⟩,⟨2,[98],P' 5⟩])] [zbW ⟨2,[97],P' 7⟩]) rfl rfl rfl rfl rfl rfl rfl rfl rfl rfl rfl rfl rfl rfl (hld 1298 iy (by omega)) (zFt (by decide) 1298 1296 Q k),?_,fun R S hf=>?_⟩
 ·have e1:zar 1299 (zch (zch (zcU 2 2) ey) (noE k Q)) (zE9++[])=[]:=by
   rw[zFe 1298,zFe 1297,iw iy,nw 1295];rfl
  rw[zGy 1299,e1];show (([]++zar 1299 (zbW ⟨2,[97],P' 7⟩) (zE9++[]++[[97],[98]]))++[])=_;rw[zGf (show [97]∈zE9++[]++[[97],[98]] by decide)];rfl
 ·simp only[zzk];exact zGi (n:=995) rfl rfl rfl rfl rfl rfl rfl rfl rfl rfl rfl rfl rfl rfl ay (zFn 986 Q k) S hf
theorem lz3(ho:Sm.Ok d x)(hc:4*x.ct<=900)(h:T.map sh=lzK 3 k x):Reads x T:=by
 obtain ⟨A,T,rfl,ha,h⟩:=List.map_eq_append_iff.1 h;obtain ⟨Y,T,rfl,hy,h⟩:=List.map_eq_append_iff.1 h;obtain ⟨B,Z,rfl,hb,hz⟩:=List.map_eq_append_iff.1 h;obtain ⟨P,rfl⟩:=zFa ha;obtain ⟨P',rfl⟩:=zFa hb;obtain ⟨Q,rfl⟩:=zFo hz;obtain ⟨ey,a,Y,rfl,a1,iy,ay⟩:=zFi ho (n:=998) (by omega) hy;obtain ⟨b,Z,e1,b1⟩:=zFR Q k;have hz:=zFn 986 Q k;refine ⟨_,way3 (n:=1297) (e:=mkCase (ziR ⟨4,[60],P 2⟩ (mkNum 1) (mkNum 2)) [(2,[]),(1,[])] [ey,noE k Q]) rfl rfl rfl rfl rfl rfl rfl rfl rfl rfl (code (fun _ hk=>zGa hk) x 1299 0 0 ey iy (by omega)) (zE4 (zFh 1297 Q k) (zFh 1298 Q k) (zFI 1298 Q k)),?_,fun R S hf=>?_⟩
 ·have e2:zar 1299 (ziR ⟨4,[60],P 2⟩ (mkNum 1) (mkNum 2)) (zE9++[])=[]:=by kernel_rfl
  rw[zGy 1299,e2];show []++(([]++zar 1299 ey (zE9++[]++[]))++(([]++zar 1299 (noE k Q) (zE9++[]++[]))++[]))=_;rw[zzS (zE9++[]),iw iy,nw 1296];rfl
 ·simp only[zzk];rw[e1]at hz ⊢;exact zGj (n:=996) rfl rfl rfl rfl rfl rfl rfl rfl rfl rfl rfl rfl rfl rfl (fun R S=>zFq ay a1 true S) (fun R S=>zFq hz b1 true S) S hf
theorem lz4(ho:Sm.Ok d x)(hc:4*x.ct<=900)(h:T.map sh=lzK 4 k x):Reads x T:=by
 obtain ⟨A,T,rfl,ha,h⟩:=List.map_eq_append_iff.1 h;obtain ⟨Z,Y,rfl,hz,hy⟩:=List.map_eq_append_iff.1 h;obtain ⟨P,rfl⟩:=zFa ha;obtain ⟨Q,rfl⟩:=zFo hz;obtain ⟨ey,_,_,_,_,iy,ay⟩:=zFi ho (n:=999) (by omega) hy;refine ⟨_,way4 (n:=1296) (e:=zch (zch (mkFun [⟨2,[97],P 2⟩,⟨2,[98],P 3⟩] (zbW ⟨2,[98],P 5⟩)) (noE k Q)) ey) rfl rfl rfl rfl rfl rfl rfl rfl rfl (hld 1299 iy (by omega)) (zFt (by decide) 1298 1297 Q k),?_,fun R S _=>?_⟩
 ·have e1:zar 1298 (mkFun [⟨2,[97],P 2⟩,⟨2,[98],P 3⟩] (zbW ⟨2,[98],P 5⟩)) (zE9++[])=[]:=by kernel_rfl
  rw[zFe 1299,zFe 1298,e1,iw iy,nw 1295];rfl
 ·simp only[zzk];exact zGk (n:=995) rfl rfl rfl rfl rfl rfl rfl (zFn 987 Q k) ay S true
theorem zF2(n:Nat)(a b:Ex):Cp.free (n+1) (zch a b)=Cp.union (Cp.free n a) (Cp.free n b):=by simp[Cp.free,zch]
theorem lz5(ho:Sm.Ok d x)(hc:4*x.ct<=900)(w:Nat)(h:T.map sh=lzK (w+5) k x):Reads x T:=by
 obtain ⟨A,T,rfl,ha,h⟩:=List.map_eq_append_iff.1 h;obtain ⟨Y,T,rfl,hy,h⟩:=List.map_eq_append_iff.1 h;obtain ⟨B,T,rfl,hb,h⟩:=List.map_eq_append_iff.1 h;obtain ⟨Z,C,rfl,hz,eV⟩:=List.map_eq_append_iff.1 h;obtain ⟨P,rfl⟩:=zFa ha;obtain ⟨P1,rfl⟩:=zFa hb;obtain ⟨P2,rfl⟩:=zFa eV;obtain ⟨Q,rfl⟩:=zFo hz;obtain ⟨ey,_,_,_,_,iy,ay⟩:=zFi ho (n:=998) (by omega) hy;have J3:Sl 2 ([[97],[98]]:List Cp.Nm):=⟨rfl,by decide⟩;have ak:=zFc 1296 Q k;have hl:Cp.zai [[97],[98]] (Cp.free 1300 (zch (zch (zcU 2 2) ey) (zch (zbW ⟨2,[98],P1 1⟩) (noE k Q))))=[[98]]:=by
  rw[zF2 1299,zF2 1298,zF2 1298,zFV J3 (fun y hy=>by rcases Cp.zaw.1 hy with hy|hy;exact absurd hy (by simp[Cp.free,zcU]);exact zCd iy hy)];exact zGQ J3 ak (by decide)
 have JX:∀ n,Cp.Dp (n+3) (zch (zbW ⟨2,[98],P1 1⟩) (noE k Q)):=fun n=>⟨zFl _ _,by simp[zch,zE5 (zFf (t:=⟨2,[98],P1 1⟩) (by simp)) rfl (n+1),zFh n Q k]⟩
 have Ke:∀ n,Cp.wt (n+3) (zch (zbW ⟨2,[98],P1 1⟩) (noE k Q))<=16:=fun n=>by
  have h1:=zFI n Q k;have h2:Cp.wt (n+2) (zbW ⟨2,[98],P1 1⟩)<=2:=by simp[Cp.wt,zbW]
  generalize zbW ⟨2,[98],P1 1⟩=x at *;generalize noE k Q=y at *;rw[Cp.wt];simp[zch];omega
 refine ⟨_,way5 (n:=1295) (e:=mkLet true [⟨2,[97],P 2⟩,⟨2,[98],P2 2⟩] [zch (zch (zcU 2 2) ey) (zch (zbW ⟨2,[98],P1 1⟩) (noE k Q)),mkFun [⟨2,[99],P2 5⟩] (zbW ⟨2,[97],P2 7⟩)] (mkCase (zbW ⟨2,[97],P2 10⟩) [(2,[⟨2,[104],P2 15⟩,⟨2,[116],P2 16⟩])] [zbW ⟨2,[104],P2 18⟩])) rfl rfl rfl rfl rfl rfl rfl rfl rfl rfl rfl rfl rfl rfl rfl rfl rfl rfl rfl rfl rfl rfl rfl rfl (hld 1298 iy (by omega)) (noB (N:=1298) rfl rfl rfl rfl (zFc 1297 Q k) (JX 1295) (JX 1297) (Ke 1297)) hl (by kernel_rfl),?_,fun R S hf=>?_⟩
 ·have e1:zar 1299 (zch (zch (zcU 2 2) ey) (zch (zbW ⟨2,[98],P1 1⟩) (noE k Q))) (zE9++[]++[[97],[98]])=[]:=by
   rw[zzk,zFe 1298,zFe 1297,zFe 1297,iw iy,nw 1294,zGf (show [98]∈zE9++([]++[[97],[98]]) by decide)];rfl
  have e2:zar 1299 (mkFun [⟨2,[99],P2 5⟩] (zbW ⟨2,[97],P2 7⟩)) (zE9++[]++[[97],[98]])=[]:=by kernel_rfl
  have e3:zar 1299 (mkCase (zbW ⟨2,[97],P2 10⟩) [(2,[⟨2,[104],P2 15⟩,⟨2,[116],P2 16⟩])] [zbW ⟨2,[104],P2 18⟩]) (zE9++[]++[[97],[98]])=[]:=by kernel_rfl
  rw[w_rec 1299];show (([]++zar 1299 (zch (zch (zcU 2 2) ey) (zch (zbW ⟨2,[98],P1 1⟩) (noE k Q))) (zE9++[]++[[97],[98]]))++(([]++zar 1299 (mkFun [⟨2,[99],P2 5⟩] (zbW ⟨2,[97],P2 7⟩)) (zE9++[]++[[97],[98]]))++[]))++zar 1299 (mkCase (zbW ⟨2,[97],P2 10⟩) [(2,[⟨2,[104],P2 15⟩,⟨2,[116],P2 16⟩])] [zbW ⟨2,[104],P2 18⟩]) (zE9++[]++[[97],[98]])=_;rw[e1,e2,e3];rfl
 ·have:=zGt (n:=996) (t:=⟨4,zqP,P 0⟩) (r:=⟨4,zo8,P 1⟩) (a:=⟨2,[97],P 2⟩) (e1:=⟨4,[61],P 3⟩) (s:=⟨4,[59],P2 1⟩) (b:=⟨2,[98],P2 2⟩) (e2:=⟨4,[61],P2 3⟩) (i:=⟨4,sIn,P2 8⟩)
   (A:=[⟨4,[123],P 4⟩,⟨3,[50],P 5⟩,⟨4,[44],P 6⟩,⟨3,[50],P 7⟩,⟨4,[125],P 8⟩]++(Y++⟨4,[40],P1 0⟩::((⟨2,[98],P1 1⟩::noT k Q)++[⟨4,[41],P2 0⟩]))) (B:=[⟨4,[92],P2 4⟩,⟨2,[99],P2 5⟩,⟨4,[46],P2 6⟩,⟨2,[97],P2 7⟩]) rfl rfl rfl rfl rfl rfl rfl rfl
   (fun R S=>by simpa using zFY (n:=994) (m1:=⟨4,[123],P 4⟩) (m2:=⟨3,[50],P 5⟩) (m3:=⟨4,[44],P 6⟩) (m4:=⟨3,[50],P 7⟩) (m5:=⟨4,[125],P 8⟩) (lp:=⟨4,[40],P1 0⟩) (b1:=⟨2,[98],P1 1⟩) (rp:=⟨4,[41],P2 0⟩) rfl rfl rfl rfl rfl rfl rfl rfl ay (zFn 985 Q k) S true)
   (fun R S=>zF3 (n:=995) rfl rfl rfl rfl S true) (zFT (n:=995) (c:=⟨4,zjO,P2 9⟩) (a:=⟨2,[97],P2 10⟩) (o:=⟨4,sOf,P2 11⟩) (l:=⟨4,[60],P2 12⟩) (k:=⟨3,[50],P2 13⟩) (g:=⟨4,[62],P2 14⟩) (x:=⟨2,[104],P2 15⟩) (y:=⟨2,[116],P2 16⟩) (ar:=⟨4,[45,62],P2 17⟩) (x':=⟨2,[104],P2 18⟩) rfl rfl rfl rfl rfl rfl rfl rfl rfl rfl S hf)
  simpa [put] using this
def more:List UInt8:=[108,111,111,112,32,61,32,108,111,111,112,59,32,107,32,120,32,121,32,61,32,120,59,32]
def zGI:List Tok:=[⟨2,[108,111,111,112],68⟩,⟨4,[61],73⟩,⟨2,[108,111,111,112],75⟩,⟨4,[59],79⟩,⟨2,[107],81⟩,⟨2,[120],83⟩,⟨2,[121],85⟩,⟨4,[61],87⟩,⟨2,[120],89⟩,⟨4,[59],90⟩]
theorem zF9(n:Nat)(u:List UInt8):zdN (n+44) (few++(more++(zEd++32::u))) 0=zGN++(zGI++(zEY 92++zdN n (32::u) 98)):=by
 show zdN (n+44) (97::100::100::32::120::32::121::32::61::32::120::32::43::32::121::59::32::115::117::98::32::120::32::121::32::61::32::120::32::45::32::121::59::32::109::117::108::32::120::32::121::32::61::32::120::32::42::32::121::59::32::100::105::118::32::120::32::121::32::61::32::120::32::47::32::121::59::32::(more++(zEd++32::u))) 0=_
 kernel_rfl
def six:List zbr:=four++[⟨⟨2,[108,111,111,112],68⟩,[],zbW ⟨2,[108,111,111,112],75⟩⟩,⟨⟨2,[107],81⟩,[⟨2,[120],83⟩,⟨2,[121],85⟩],zbW ⟨2,[120],89⟩⟩]
theorem zGe(T:List Tok):zcn (zdJ 1000) 1000 [] ⟨zGN++(zGI++T),none⟩=zcn (zdJ 1000) 994 six ⟨T,none⟩:=by kernel_rfl
def lzL (e:Ex):List zbr:=six++[⟨⟨2,zcO,92⟩,[],e⟩]
theorem zFZ:zbL 1300 zE9 [] six=[]:=by kernel_rfl
theorem zF7(z:Nat)(R:List Tok)(e:Ex)(h:zar 1300 e (zE9++[])=[]):(answer z (lzL e,⟨R,none⟩) 1300).1=0:=by
 have e1:zaq (lzL e)=zE9:=rfl;have e2:zbl (lzL e)=true:=rfl;have e3:zbL 1300 zE9 [] (lzL e)=[]:=by
  unfold lzL;rw[zCC,zFZ];simp only[zbL,zzb,zzS,texts,List.map_nil,zjc]at h ⊢;rw[h];rfl
 unfold answer;simp only[e1,e3,e2];rfl
def bl6:List (Nat × List Ins):=[fB 8,fB 10,fB 12,fB 14,(0,[.zcW 4,.zci 1,.enter]),(2,[.push 1,.zci 1,.enter]),(0,[]),dB 0,cB 7,dB 1,cB 9,dB 2,cB 11,dB 3,cB 13]
theorem zGu:Cp.lines (Cp.free 1300) zE9 1300 0 six (List.replicate 7 (0,[]))=bl6:=by kernel_rfl
theorem zGH(e:Ex):Cp.program 1300 (lzL e)=(Cp.work (Cp.free 1300) zE9 1300 e 0 ⟨bl6,[],[]⟩).blocks.set 6 (0,(Cp.work (Cp.free 1300) zE9 1300 e 0 ⟨bl6,[],[]⟩).code):=by
 have e1:(lzL e).map (fun f=>f.name.s)=zE9:=rfl;have e2:(lzL e).length=7:=rfl;unfold Cp.program;rw[e1,e2];unfold lzL;rw[zCQ,zGu];simp only[Cp.lines];rfl
theorem zGx(e:Ex):(lzL e).length=7/\(zaq (lzL e)).idxOf zcO=6:=by
 have e1:zaq (lzL e)=zE9:=rfl;rw[e1];exact ⟨rfl,by decide⟩
def zE2 (w k:Nat) (x:Sm):List UInt8:=few++(more++(zEd++32::(lzS w k x++[59])))
theorem zFH(h:(tk x).length<=x.text.length)(w k:Nat):(lzS w k x).length<=x.text.length+100/\(lzK w k x).length<=(lzS w k x).length/\x.text.length<=(lzS w k x).length:=by
 have:=zFj k
 match w with
 |0=>simp[lzS,lzK,Sm.par];omega
 |1=>simp[lzS,lzK,Sm.par];omega
 |2=>simp[lzS,lzK,Sm.par];omega
 |3=>simp[lzS,lzK,Sm.par];omega
 |4=>simp[lzS,lzK,Sm.par];omega
 |_+5=>simp[lzS,lzK,Sm.par];omega
theorem zFg(w k:Nat)(x:Sm):(zE2 w k x).length=(lzS w k x).length+100:=by
 unfold zE2;simp only[zyT,zy8,zzm];have h1:few.length=68:=by decide
 have h2:zEd.length=6:=by decide
 have h3:more.length=24:=by decide
 omega
theorem zGr(ho:Sm.Ok d x)(hc:4*x.ct<=900){T:List Tok}:∀ w,T.map sh=lzK w k x->Reads x T
 |0,h=>lz0 ho hc h
 |1,h=>lz1 ho hc h
 |2,h=>lz2 ho hc h
 |3,h=>lz3 ho hc h
 |4,h=>lz4 ho hc h
 |w+5,h=>lz5 ho hc w h
theorem zGq(ho:Sm.Ok d x)(w:Nat)(hs:(zE2 w k x).length<=600):∃ e R,zFw 1299 zE9 1300 x e/\zar 1300 e (zE9++[])=[]/\zmt ⟨(zE2 w k x).toArray⟩=some (lzL e,⟨R,none⟩):=by
 obtain ⟨t1,t2⟩:=zDf x d ho;have hl:=zFg w k x;have hk:=zFH t1 w k;have hT:∃ T:List Tok,zay ⟨(zE2 w k x).toArray⟩=zGN++(zGI++(zEY 92++T))/\T.map sh=lzK w k x++[(4,[59]),(0,[])]:=by
  refine ⟨zdN ((lzS w k x).length+57) (32::(lzS w k x++[59])) 98,?_,?_⟩
  ·unfold zay;show zdN ((zE2 w k x).toArray.size+1) (zE2 w k x) 0=_;rw[zzr,hl,show (lzS w k x).length+100+1=((lzS w k x).length+57)+44 by omega];exact zF9 _ _
  ·rw[zGR,zGn (by omega),show (lzS w k x).length+57=((lzS w k x).length+57-(lzK w k x).length-2+2)+(lzK w k x).length by omega,zGS ho k _ [] w];unfold lx;rw[zDg];rfl
 obtain ⟨T,T1,T2⟩:=hT;obtain ⟨TX,TE,rfl,T3,T4⟩:=List.map_eq_append_iff.1 T2;obtain ⟨s1,T5,rfl,h1,h2⟩:=List.map_eq_cons_iff.1 T4;obtain ⟨s2,T6,rfl,h3,h4⟩:=List.map_eq_cons_iff.1 h2;cases List.map_eq_nil_iff.1 h4;obtain ⟨zA,I5⟩:=Prod.mk.inj h1;obtain ⟨Jk,A3⟩:=Prod.mk.inj h3;obtain ⟨e,me,we,re⟩:=zGr ho (by omega) w T3;refine ⟨e,[s2],me,we,?_⟩;unfold zmt;rw[T1,zGe];show zcn (zdJ 1000) (993+1) six ⟨⟨2,zcO,92⟩::⟨4,[61],97⟩::(TX++[s1,s2]),none⟩=_;rw[zcn,if_pos (by simp[St.hd])];have hp:zmE (zdJ 1000) ⟨⟨2,zcO,92⟩::⟨4,[61],97⟩::(TX++[s1,s2]),none⟩=some (⟨⟨2,zcO,92⟩,[],e⟩,⟨[s2],none⟩):=by
  unfold zmE;have a1:zaL ⟨⟨2,zcO,92⟩::⟨4,[61],97⟩::(TX++[s1,s2]),none⟩=(⟨2,zcO,92⟩,⟨⟨4,[61],97⟩::(TX++[s1,s2]),none⟩):=zCc rfl;have a2:zax ⟨⟨4,[61],97⟩::(TX++[s1,s2]),none⟩=([],⟨⟨4,[61],97⟩::(TX++[s1,s2]),none⟩):=by simp[zax]
  simp only[a1,a2];rw[zCm (show (⟨4,[61],97⟩:Tok).s=[61] from rfl),re [s1,s2] ⟨s1,[s2],rfl,zA,.inr (.inl I5)⟩ (by simp[za8,St.is,St.hd,A3])];simp only[zzD];rw[zCm I5]
 rw[hp];simp only[zzD];show zcn (zdJ 1000) (992+1) _ _=_;rw[zcn,if_neg (by simp[St.hd,Jk])];rfl
theorem zGP{bl:List (Nat × List Ins)}{is:List Ins}(hb:bl.length<=100000000):LG ((bl6++bl).set 6 (0,is)):=by
 have hg:∀ i,i<15->i≠6->((bl6++bl).set 6 (0,is))[i]?=bl6[i]?:=fun i hi h4=>by
  rw[zAo (Ne.symm h4),zzc (by exact hi)]
 refine ⟨⟨by simp[bl6];omega,fun k hk=>?_⟩,by rw[hg _ (by omega) (by omega)];rfl⟩;obtain rfl|rfl|rfl|rfl:k=0\/k=1\/k=2\/k=3:=by omega
 ·exact ⟨8,7,by rw[hg _ (by omega) (by omega)];rfl,by rw[hg _ (by omega) (by omega)];rfl,by rw[hg _ (by omega) (by omega)];rfl⟩
 ·exact ⟨10,9,by rw[hg _ (by omega) (by omega)];rfl,by rw[hg _ (by omega) (by omega)];rfl,by rw[hg _ (by omega) (by omega)];rfl⟩
 ·exact ⟨12,11,by rw[hg _ (by omega) (by omega)];rfl,by rw[hg _ (by omega) (by omega)];rfl,by rw[hg _ (by omega) (by omega)];rfl⟩
 ·exact ⟨14,13,by rw[hg _ (by omega) (by omega)];rfl,by rw[hg _ (by omega) (by omega)];rfl,by rw[hg _ (by omega) (by omega)];rfl⟩
theorem zF8(ho:Sm.Ok d x)(w:Nat)(hs:(zE2 w k x).length<=600)(heap fuel:Int)(poor:Prop)(hp:poor\/(20000<=zb9 heap 262144/\10000<=zb9 fuel 4000000)):∃ r,zdw ⟨(zE2 w k x).toArray⟩ heap fuel r 0/\May x.val poor r:=by
 obtain ⟨e,R,me,we,hl⟩:=zGq ho w hs;obtain ⟨t1,t2⟩:=zDf x d ho;have hlen:=zFg w k x;have hx:=zFH t1 w k;have cT:(⟨(zE2 w k x).toArray⟩:ByteArray).size<=600:=by show (zE2 w k x).toArray.size<=600;rw[zzr];exact hs
 obtain ⟨is,bl,c1,c2,c0,c3⟩:=me bl6;have rV:Cp.program 1300 (lzL e)=(bl6++bl).set 6 (0,is):=by
  rw[zGH,c1,c2]
 have jj:((bl6++bl).set 6 (0,is))[6]?=some (0,is):=List.getElem?_set_self (by simp[bl6]);have hin:zDp ((bl6++bl).set 6 (0,is)) bl6.length bl:=fun i hi=>by
  have JF:bl6.length=15:=rfl;rw[zAo (by omega),zy3 (by omega),Nat.add_sub_cancel_left]
 obtain ⟨g,r,hr,hm⟩:=zEZ (hf:=zb9 heap 262144/2) (fuel:=zb9 fuel 4000000) (m:=6) (z:=30*x.ct+100) (poor:=poor) (by omega) jj (fun Q fns hA h st f W F nx o R K=>c3 _ _ Q fns (zGP (by omega)) (fun k hk=>hA k (by omega)) hin h st f W F nx (fun k hk=>o k hk) R K) (hp.imp id (fun h=>by omega));refine ⟨r,?_,hm⟩;obtain ⟨q,N,hq,gK⟩:=zjz ⟨(zE2 w k x).toArray⟩ cT;rw[hl]at hq;cases hq;have h0:(answer (⟨(zE2 w k x).toArray⟩:ByteArray).size (lzL e,⟨R,none⟩) N).1=0:=by
  rw[zsu cT gK];exact zF7 _ _ _ we
 have hw:=zqm heap 262144;refine fun w=>zwv cT gK h0 heap fuel (g:=g) (fun pv=>?_) w
 refine Ab.zt2 (by omega) ?_;show Ab.zwX (zb9 heap 262144/2) (Cp.program 1300 (lzL e)) (lzL e).length ((zaq (lzL e)).idxOf zcO) (zb9 fuel 4000000) g=some r;rw[(zGx e).1,(zGx e).2,rV];exact hr
end Sg
end Go.Proofs.YtgahgkddaljmkaaGreatDoor
namespace Go.Proofs.YtgahgkddaljmkaaGreatDoor
open Tryz
open Go.RowKit
attribute [local go_sem ↓] Go.wp_at_zero Go.wp_at_succ
def smV (s:Sm):Value:=.agg #[.string ⟨s.text.toArray⟩,.int .i64 (s.val.getD 0),.bool s.val.isNone]
theorem zB9.fr{w w':World}{sb:Nat}{a:Option Addr}{len cap:Nat}{g:Nat->Int}{i left i' Iq:Nat}(h:zB9 w sb a len cap g i left)(f:Fr (fun b=>b=sb) w w')(hb:Blk w' sb [.slice a len cap,.int .i64 i',.int .i64 Iq] 29):zB9 w' sb a len cap g i' Iq:=by
 refine ⟨hb,fun j hj=>?_⟩;obtain ⟨A,e1,e2,e3⟩:=h.2 j hj;refine ⟨A,e1,e2,?_⟩;have hl:=World.block_lt_of_cell? w (A.add j) e3;have aH:(A.add j).block≠sb:=by
  unfold Addr.add;split <;> exact e2
 exact (World.cell?_of_block (w:=w) (f.block _ hl aH)).trans e3
variable {d:Nat}
theorem zD4{w:World}{sb len cap i left:Nat}{a:Option Addr}{g:Nat->Int}(h:zB9 w sb a len cap g i left)(hg:∀ j,-9223372036854775808<=g j/\g j<=9223372036854775807)(hlen:len<=9223372036854775807)(hi:i<=len)(hd:d<=5)(Ix:left<=1000)(hz:d=0\/zB5 g len i 8=0\/left=0):
  Calls prog 19 #[.pointer (some ⟨sb,0,none⟩),.int .i64 d] w fun e w'=>e=.returned (smV (.num (zB5 g len (zBZ len i) 40).toNat))/\Fr (fun b=>b=sb) w w'/\zB9 w' sb a len cap g (zBZ len (zBZ len i)) left:=by
 have N1:Hid (∀ W,zB9 W sb a len cap g i left->Calls prog 32 #[.pointer (some ⟨sb,0,none⟩),.int .i64 8] W fun e w'=>e=.returned (.int .i64 (zB5 g len i 8))/\Fr (fun b=>b=sb) W w'/\Blk w' sb [.slice a len cap,.int .i64 (zBZ len i),.int .i64 left] 29):=zab fun W hW=>zCt (n:=8) hW hg hlen hi (by omega) (by omega)
 have F0:=zab ((Fr.refl (fun b=>b=sb) w).alloc (.cells #[.string ⟨#[]⟩,.int .i64 0,.bool false] 31));have h0:=h.fr F0.o (h.1.alloc _);have B0:=zab (Blk.new w [.string ⟨#[]⟩,.int .i64 0,.bool false] 31);have aH:=zab (show ¬ w.heap.size=sb from Nat.ne_of_gt h.1.lt);have H:=zab h0;have H1:=zab h;have hb:=Sm.zCe g len (zBZ len i) (n:=40) (by omega);obtain ⟨m,hm⟩:=Int.eq_ofNat_of_zero_le hb.1;have lg:zBZ len i<=len:=by unfold zBZ;split <;> omega
 have Jo:m<40:=by omega
 have D:=zab (zjb 2 m (by omega) (by omega) (by omega));have N2:Hid (∀ W,zB9 W sb a len cap g (zBZ len i) left->Calls prog 32 #[.pointer (some ⟨sb,0,none⟩),.int .i64 40] W fun e w'=>e=.returned (.int .i64 m)/\Fr (fun b=>b=sb) W w'/\Blk w' sb [.slice a len cap,.int .i64 (zBZ len (zBZ len i)),.int .i64 left] 29):=zab fun W hW=>by
  have:=zCt (n:=40) hW hg hlen lg (by omega) (by omega)
  rwa [hm]at this
 rw[hm,zy2];clear h h0 hg hb hm;generalize zB5 g len i 8=Ij at *;rcases hz with rfl|rfl|rfl
 all_goals
  go_enter func19,ntmps19
  go_wp2_with fail
  refine (N1.o _ H.o).mono ?_;rintro e w1 ⟨rfl,f1,b1⟩;have S1:=zab (H.o.fr f1 b1);have F1:=zab (F0.o.trans f1);have B1:=zab (Fr.blk B0.o f1 aH.o);have c2:=b1.cell 2;simp at c2;clear f1 b1;go_wp2_with fail
  all_goals
   refine (N2.o _ S1.o).mono ?_;rintro e w2 ⟨rfl,f2,b2⟩;have S2:=zab (S1.o.fr f2 b2);have F2:=zab (F1.o.trans f2);have b3:=Fr.blk B1.o f2 aH.o;have HR:=zab b3;have r0:=b3.cell 0;have r1:=b3.cell 1;have r2:=b3.cell 2;have z0:=b3.frozen 0;have z1:=b3.frozen 1;have z2:=b3.frozen 2;simp at r0 r1 r2;clear f2 b2 b3;go_wp2_with fail
   refine (D.o _).mono ?_;rintro e w3 ⟨rfl,rfl⟩;go_wp2_with fail
   refine bodyPost_ret (results_cell_row rfl _ _ w.heap.size _ _ _ _ rfl (Blk.set (Blk.set (Blk.set HR.o 0 _) 1 _) 2 _) underlying31 rfl (by kernel_rfl)) rfl ?_;have FF:=((F2.o.set ⟨w.heap.size,0,none⟩ (.string ⟨(zrn 2 m).toArray⟩) (.inr (zyN _))).set ⟨w.heap.size,1,none⟩ (.int .i64 m) (.inr (zyN _))).set ⟨w.heap.size,2,none⟩ (.bool false) (.inr (zyN _));have hn:=fun e=>aH.o (Eq.symm e)
   exact ⟨rfl,FF,H1.o.fr FF (Blk.other (Blk.other (Blk.other S2.o.1 _ _ hn) _ _ hn) _ _ hn)⟩
def opT (Ij k:Nat) (a b:List UInt8):List UInt8:=
 if Ij<5 then Sm.par a++[32]++Sm.sign k++[32]++Sm.par b else
 if Ij=5 then Sm.name k++[32]++Sm.par a++[32]++Sm.par b else
 if Ij=6 then [108,101,116,32,112,32,61,32]++Sm.par a++[59,32,113,32,61,32]++Sm.par b++[32,105,110,32,112,32]++Sm.sign k++[32,113] else
 [40,92,112,32,113,46,32,112,32]++Sm.sign k++[32,113,41,32]++Sm.par a++[32]++Sm.par b
def opB (k:Nat) (y:Int) (p q:Bool):Bool:=p||q||(!(k=0||k=1||k=2) && y == 0)
def opN (k:Nat) (x y:Int):Int:=
 if k=0 then IntKind.i64.wrap (x+y) else
 if k=1 then IntKind.i64.wrap (x-y) else
 if k=2 then IntKind.i64.wrap (x*y) else
 if y=0 then 0 else IntKind.i64.wrap (Int.tdiv x y)
theorem zE0(Ij k:Nat)(a b:Sm):smV (.op Ij k a b)=.agg #[.string ⟨(opT Ij k a.text b.text).toArray⟩,.int .i64 (if opB k (b.val.getD 0) a.val.isNone b.val.isNone then 0 else opN k (a.val.getD 0) (b.val.getD 0)),.bool (opB k (b.val.getD 0) a.val.isNone b.val.isNone)]:=by
 unfold smV;have e:(Sm.op Ij k a b).text=opT Ij k a.text b.text:=rfl;have v:(Sm.op Ij k a b).val=if opB k (b.val.getD 0) a.val.isNone b.val.isNone then none else some (opN k (a.val.getD 0) (b.val.getD 0)):=by
  rw[Sm.val];rcases a.val with _|x <;> rcases b.val with _|y <;> simp[opB,opN]
  by_cases h0:k=0
  ·simp[h0]
  by_cases h1:k=1
  ·simp[h1]
  by_cases h2:k=2
  ·simp[h2]
  by_cases hy:y=0 <;> simp[h0,h1,h2,hy]
 rw[e,v];cases opB k (b.val.getD 0) a.val.isNone b.val.isNone <;> simp
theorem zC5(a b:ByteArray)(h:a.size+b.size<=1000000):∃ r,r=a++b/\r.size=a.size+b.size/\∀ W:World,(Op.stringOp .add a b).run prog W=.ok (.string r) W:=
 ⟨_,rfl,ByteArray.size_append,zl9 rfl (by rw[ByteArray.size_append];exact h)⟩
end Go.Proofs.YtgahgkddaljmkaaGreatDoor
