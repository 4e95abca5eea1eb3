/- SmZ .. SmR -/
import Derived.Test.YtgahgkddaljmkaaGreatDoorR24
set_option maxRecDepth 100000
set_option maxHeartbeats 4000000
namespace Go.Proofs.YtgahgkddaljmkaaGreatDoor
open Tryz
namespace Sg
open Th Ab.Sg
def noS:Nat->List UInt8
 |0=>[40,49,32,47,32,48,41]
 |1=>[108,111,111,112]
 |2=>[40,48,32,48,41]
 |3=>[40,99,97,115,101,32,49,32,111,102,32,60,49,62,32,45,62,32,50,41]
 |4=>[40,123,51,44,48,125,32,49,41]
 |_=>[40,108,101,116,32,114,101,99,32,121,32,61,32,121,32,105,110,32,121,41]
def noT (k:Nat) (P:Nat->Nat):List Tok:=match k with
 |0=>[⟨4,[40],P 0⟩,⟨3,[49],P 1⟩,⟨4,[47],P 2⟩,⟨3,[48],P 3⟩,⟨4,[41],P 4⟩]
 |1=>[⟨2,[108,111,111,112],P 0⟩]
 |2=>[⟨4,[40],P 0⟩,⟨3,[48],P 1⟩,⟨3,[48],P 2⟩,⟨4,[41],P 3⟩]
 |3=>[⟨4,[40],P 0⟩,⟨4,zjO,P 1⟩,⟨3,[49],P 2⟩,⟨4,sOf,P 3⟩,⟨4,[60],P 4⟩,⟨3,[49],P 5⟩,⟨4,[62],P 6⟩,⟨4,[45,62],P 7⟩,⟨3,[50],P 8⟩,⟨4,[41],P 9⟩]
 |4=>[⟨4,[40],P 0⟩,⟨4,[123],P 1⟩,⟨3,[51],P 2⟩,⟨4,[44],P 3⟩,⟨3,[48],P 4⟩,⟨4,[125],P 5⟩,⟨3,[49],P 6⟩,⟨4,[41],P 7⟩]
 |_=>[⟨4,[40],P 0⟩,⟨4,zqP,P 1⟩,⟨4,zo8,P 2⟩,⟨2,[121],P 3⟩,⟨4,[61],P 4⟩,⟨2,[121],P 5⟩,⟨4,sIn,P 6⟩,⟨2,[121],P 7⟩,⟨4,[41],P 8⟩]
def noE (k:Nat) (P:Nat->Nat):Ex:=match k with
 |0=>ziR ⟨4,[47],P 2⟩ (mkNum 1) (mkNum 0)
 |1=>zbW ⟨2,[108,111,111,112],P 0⟩
 |2=>zch (mkNum 0) (mkNum 0)
 |3=>mkCase (mkNum 1) [(1,[])] [mkNum 2]
 |4=>zch (zcU 3 0) (mkNum 1)
 |_=>mkLet true [⟨2,[121],P 3⟩] [zbW ⟨2,[121],P 5⟩] (zbW ⟨2,[121],P 7⟩)
theorem zE7{k:Nat}(P:Nat->Nat)(R:List Tok):zcI ⟨noT k P++R,none⟩=true:=by
 match k with
 |0=>rfl
 |1=>rfl
 |2=>rfl
 |3=>rfl
 |4=>rfl
 |_+5=>rfl
theorem zFn(n:Nat)(P:Nat->Nat):∀ k,Atm (zdJ (n+12)) (noT k P) (noE k P)
 |0=>fun R=>⟨zE7 (k:=0) P R,by show zeU (zdJ (n+12)) ⟨⟨4,[40],P 0⟩::⟨3,[49],P 1⟩::⟨4,[47],P 2⟩::⟨3,[48],P 3⟩::⟨4,[41],P 4⟩::R,none⟩=_;kernel_rfl⟩
 |1=>fun R=>⟨zE7 (k:=1) P R,by show zeU (zdJ (n+12)) ⟨⟨2,[108,111,111,112],P 0⟩::R,none⟩=_;kernel_rfl⟩
 |2=>fun R=>⟨zE7 (k:=2) P R,by show zeU (zdJ (n+12)) ⟨⟨4,[40],P 0⟩::⟨3,[48],P 1⟩::⟨3,[48],P 2⟩::⟨4,[41],P 3⟩::R,none⟩=_;kernel_rfl⟩
 |3=>fun R=>⟨zE7 (k:=3) P R,by show zeU (zdJ (n+12)) ⟨⟨4,[40],P 0⟩::⟨4,zjO,P 1⟩::⟨3,[49],P 2⟩::⟨4,sOf,P 3⟩::⟨4,[60],P 4⟩::⟨3,[49],P 5⟩::⟨4,[62],P 6⟩::⟨4,[45,62],P 7⟩::⟨3,[50],P 8⟩::⟨4,[41],P 9⟩::R,none⟩=_;kernel_rfl⟩
 |4=>fun R=>⟨zE7 (k:=4) P R,by show zeU (zdJ (n+12)) ⟨⟨4,[40],P 0⟩::⟨4,[123],P 1⟩::⟨3,[51],P 2⟩::⟨4,[44],P 3⟩::⟨3,[48],P 4⟩::⟨4,[125],P 5⟩::⟨3,[49],P 6⟩::⟨4,[41],P 7⟩::R,none⟩=_;kernel_rfl⟩
 |_+5=>fun R=>⟨zE7 (k:=5) P R,by show zeU (zdJ (n+12)) ⟨⟨4,[40],P 0⟩::⟨4,zqP,P 1⟩::⟨4,zo8,P 2⟩::⟨2,[121],P 3⟩::⟨4,[61],P 4⟩::⟨2,[121],P 5⟩::⟨4,sIn,P 6⟩::⟨2,[121],P 7⟩::⟨4,[41],P 8⟩::R,none⟩=_;kernel_rfl⟩
theorem zFb(v:Nat)(hv:v<=9):Cp.zF0 (mkNum v):=by constructor <;> simp[mkNum] <;> omega
variable {t:Tok}
theorem zFf(h:t.s≠[]):Cp.zF0 (zbW t):=by constructor <;> simp[zbW,h]
theorem zGm:Cp.zF0 (zcU 3 0):=by constructor <;> simp[zcU]
theorem zFl(a b:Ex):Cp.zF0 (zch a b):=by constructor <;> simp[zch]
theorem zGK(t:Tok)(h:t.s∈Th.six)(a b:Ex):Cp.zF0 (ziR t a b):=by constructor <;> simp[ziR,h]
theorem zGl(a b:Ex):Cp.zF0 (mkCase a [(1,[])] [b]):=by
 constructor <;> simp[mkCase]
 exact ⟨_,_,⟨rfl,rfl⟩,rfl⟩
theorem zGw(h:t.s≠[])(a b:Ex):Cp.zF0 (mkLet true [t] [a] b):=by
 constructor <;> simp[mkLet,h]
 exact ⟨_,_,⟨rfl,rfl⟩,rfl⟩
variable {e:Ex}
theorem zE5(h:Cp.zF0 e)(hk:e.kids=[])(n:Nat):Cp.Dp (n+1) e:=⟨h,by rw[hk];simp⟩
theorem zFh(n:Nat)(P:Nat->Nat):∀ k,Cp.Dp (n+2) (noE k P)
 |0=>⟨zGK _ (by simp[Th.six]) _ _,by simp[noE,ziR,zE5 (zFb 1 (by omega)) rfl n,zE5 (zFb 0 (by omega)) rfl n]⟩
 |1=>zE5 (zFf (by simp)) rfl (n+1)
 |2=>⟨zFl _ _,by simp[noE,zch,zE5 (zFb 0 (by omega)) rfl n]⟩
 |3=>⟨zGl _ _,by simp[noE,mkCase,zE5 (zFb 1 (by omega)) rfl n,zE5 (zFb 2 (by omega)) rfl n]⟩
 |4=>⟨zFl _ _,by simp[noE,zch,zE5 (zFb 1 (by omega)) rfl n,zE5 zGm rfl n]⟩
 |_+5=>⟨zGw (by simp) _ _,by simp[noE,mkLet,zE5 (zFf (t:=⟨2,[121],P 5⟩) (by simp)) rfl n,zE5 (zFf (t:=⟨2,[121],P 7⟩) (by simp)) rfl n]⟩
theorem zFI(n:Nat)(P:Nat->Nat):∀ k,Cp.wt (n+2) (noE k P)<=12
 |0=>by simp[noE,Cp.wt,ziR,mkNum]
 |1=>by simp[noE,Cp.wt,zbW]
 |2=>by simp[noE,Cp.wt,zch,mkNum]
 |3=>by simp[noE,Cp.wt,mkCase,mkNum]
 |4=>by simp[noE,Cp.wt,zch,mkNum,zcU]
 |_+5=>by simp[noE,Cp.wt,mkLet,zbW]
theorem zFc(n:Nat)(P:Nat->Nat):∀ k,∀ x∈Cp.free (n+2) (noE k P),x∈zFv
 |0=>by simp[noE,Cp.free,ziR,mkNum,Cp.union,Cp.zaH]
 |1=>by simp[noE,Cp.free,zbW,zFv]
 |2=>by simp[noE,Cp.free,zch,mkNum,Cp.union,Cp.zaH]
 |3=>by simp[noE,Cp.free,mkCase,mkNum,Cp.union,Cp.zaH,Cp.zas,Th.texts]
 |4=>by simp[noE,Cp.free,zch,mkNum,zcU,Cp.union,Cp.zaH]
 |_+5=>by simp[noE,Cp.free,mkLet,zbW,Cp.union,Cp.zaH,Cp.zav,Th.texts]
def noK:Nat->List (Nat × List UInt8)
 |0=>[(4,[40]),(3,[49]),(4,[47]),(3,[48]),(4,[41])]
 |1=>[(2,[108,111,111,112])]
 |2=>[(4,[40]),(3,[48]),(3,[48]),(4,[41])]
 |3=>[(4,[40]),(4,zjO),(3,[49]),(4,sOf),(4,[60]),(3,[49]),(4,[62]),(4,[45,62]),(3,[50]),(4,[41])]
 |4=>[(4,[40]),(4,[123]),(3,[51]),(4,[44]),(3,[48]),(4,[125]),(3,[49]),(4,[41])]
 |_=>[(4,[40]),(4,zqP),(4,zo8),(2,[121]),(4,[61]),(2,[121]),(4,sIn),(2,[121]),(4,[41])]
def put:List (Nat × List UInt8)->Nat->(Nat->Nat)->List Tok
 |[],_,_=>[]
 |a::l,i,P=>⟨a.1,a.2,P i⟩::put l (i+1) P
theorem zFJ:∀ (T:List Tok) (l:List (Nat × List UInt8)) (i:Nat) (P:Nat->Nat),T.map sh=l->(∀ j t,T[j]?=some t->P (i+j)=t.at_)->T=put l i P
 |[],_,_,_,rfl,_=>rfl
 |t::T,_,i,P,rfl,h=>by
  have h0:=h 0 t rfl;have ih:=zFJ T (T.map sh) (i+1) P rfl (fun j u hu=>by have:=h (j+1) u hu;rwa [show i+1+j=i+(j+1) by omega]);rw[zza,put,<-ih];congr 1;cases t;simp[sh]at h0 ⊢;exact h0.symm
theorem zGU(P:Nat->Nat):∀ k,put (noK k) 0 P=noT k P
 |0=>rfl
 |1=>rfl
 |2=>rfl
 |3=>rfl
 |4=>rfl
 |_+5=>rfl
theorem zFo{T:List Tok}{k:Nat}(h:T.map sh=noK k):∃ P,T=noT k P:=by
 refine ⟨fun i=>(T[i]?.map Tok.at_).getD 0,?_⟩;rw[<-zGU];exact zFJ T _ 0 _ h (fun j t ht=>by simp[ht])
theorem zFt{fnl:List Cp.Nm}(hi:fnl.idxOf [108,111,111,112]=4)(n m:Nat)(P:Nat->Nat):∀ k,NoH (n+1) fnl (m+2) (noE k P)
 |1=>zGJ rfl rfl hi
 |0=>zFC (show 4<6 by omega) (zFc n P 0) (zE4 (zFh m P 0) (zFh n P 0) (zFI n P 0))
 |2=>zFC (show 4<5 by omega) (zFc n P 2) (zE4 (zFh m P 2) (zFh n P 2) (zFI n P 2))
 |3=>zFC (show 4<9 by omega) (zFc n P 3) (zE4 (zFh m P 3) (zFh n P 3) (zFI n P 3))
 |4=>zFC (show 4<5 by omega) (zFc n P 4) (zE4 (zFh m P 4) (zFh n P 4) (zFI n P 4))
 |k+5=>zFC (show 4<8 by omega) (zFc n P (k+5)) (zE4 (zFh m P (k+5)) (zFh n P (k+5)) (zFI n P (k+5)))
variable {n:Nat} {Y Z R:List Tok} {ey ez:Ex}
theorem zGg(ht:sh t=(2,[107]))(hy:Atm (zdJ (n+3)) Y ey)(hz:Atm (zdJ (n+3)) Z ez)(S:Stop R)(outer:Bool):zdJ (n+4) outer ⟨t::(Y++(Z++R)),none⟩=some (zch (zch (zbW t) ey) ez,⟨R,none⟩):=by
 obtain ⟨t1,t2⟩:=Prod.mk.inj ht;show zg7 (zdJ (n+3)) (n+3) outer _=_;rw[zCb (by rw[t2];decide) (by rw[t2];decide) (by rw[t2];decide)];exact zCp (zCy (X:=[t]) (k:=n) (zCD t1) hy hz S.facts.1) S
variable {a:Tok}
theorem zGh{t1 t2 t3 t4:Tok}{Y':List Tok}(h1:sh t1=(4,zqP))(h2:sh t2=(2,[122]))(h3:sh t3=(4,[61]))(h4:sh t4=(4,sIn))(hz:Atm (zdJ (n+2)) (a::Z) ez)(ha:a.s≠zqP/\a.s≠zjO/\a.s≠[92])(hy:∀ outer,zdJ (n+3) outer ⟨Y',none⟩=some (ey,⟨R,none⟩))(outer:Bool):zdJ (n+4) outer ⟨t1::t2::t3::(a::Z++t4::Y'),none⟩=some (mkLet false [t2] [ez] ey,⟨R,none⟩):=by
 obtain ⟨t11,t12⟩:=Prod.mk.inj h1;obtain ⟨t21,t22⟩:=Prod.mk.inj h2;obtain ⟨t31,t32⟩:=Prod.mk.inj h3;obtain ⟨t41,t42⟩:=Prod.mk.inj h4;have hs:Stop (t4::Y'):=⟨_,_,rfl,t41,.inr (.inr (.inl t42))⟩;have bF:zdJ (n+3) true ⟨a::Z++t4::Y',none⟩=some (ez,⟨t4::Y',none⟩):=by
  show zg7 (zdJ (n+2)) (n+2) true ⟨a::(Z++t4::Y'),none⟩=_;rw[zCb ha.1 ha.2.1 ha.2.2];exact zCp (zCo (X:=a::Z) hz hs.facts.1) hs
 show zg7 (zdJ (n+3)) (n+3) outer _=_;unfold zg7;rw[if_pos (by simp[St.is,St.hd,t12])];unfold ztQ;have hr:St.is zo8 (St.adv ⟨t1::t2::t3::(a::Z++t4::Y'),none⟩)=false:=by simp[St.is,St.hd,St.adv,t22,zo8]
 have hb:zcu (zdJ (n+3)) (n+3) [] [] ⟨t2::t3::(a::Z++t4::Y'),none⟩=some ([t2],[ez],⟨t4::Y',none⟩):=by
  rw[zcu];simp only[zCc t21,zCm t32];rw[bF];simp only[zzD];rw[if_neg (by simp[St.is,St.hd,t42,sIn])];rfl
 simp only[hr];show (zcu (zdJ (n+3)) (n+3) [] [] ⟨t2::t3::(a::Z++t4::Y'),none⟩).bind _=_;rw[hb];simp only[zzD,zCm t42];rw[hy outer];rfl
theorem zGk{t0 t1 t2 t3 t4 t5 t6:Tok}(h0:sh t0=(4,[40]))(h1:sh t1=(4,[92]))(h2:sh t2=(2,[97]))(h3:sh t3=(2,[98]))(h4:sh t4=(4,[46]))(h5:sh t5=(2,[98]))(h6:sh t6=(4,[41]))(hz:Atm (zdJ (n+4)) Z ez)(hy:Atm (zdJ (n+4)) Y ey)(S:Stop R)(outer:Bool):zdJ (n+5) outer ⟨t0::([t1,t2,t3,t4,t5]++[t6])++(Z++(Y++R)),none⟩=some (zch (zch (mkFun [t2,t3] (zbW t5)) ez) ey,⟨R,none⟩):=by
 obtain ⟨Kl,JU⟩:=Prod.mk.inj h0;obtain ⟨t11,t12⟩:=Prod.mk.inj h1;obtain ⟨t21,t22⟩:=Prod.mk.inj h2;obtain ⟨t31,t32⟩:=Prod.mk.inj h3;obtain ⟨t41,t42⟩:=Prod.mk.inj h4;obtain ⟨t51,t52⟩:=Prod.mk.inj h5;have hf:Atm (zdJ (n+4)) (t0::([t1,t2,t3,t4,t5]++[t6])) (mkFun [t2,t3] (zbW t5)):=zCi h0 h6 fun R S=>by
  show zg7 (zdJ (n+3)) (n+3) false ⟨t1::t2::t3::t4::t5::R,none⟩=_;unfold zg7;rw[if_neg (by simp[St.is,St.hd,t12,zqP]),if_neg (by simp[St.is,St.hd,t12,zjO]),if_pos (by simp[St.is,St.hd,t12])];unfold ztO;show (zdJ (n+3) false (want [46] (zax (zaL ⟨t2::t3::t4::t5::R,none⟩).2).2)).bind _=_;have hn:zax ⟨t3::t4::t5::R,none⟩=([t3],⟨t4::t5::R,none⟩):=by simp[zax,t31,t41]
  rw[zCc t21];simp only[hn,zCm t42];have hb:zdJ (n+3) false ⟨t5::R,none⟩=some (zbW t5,⟨R,none⟩):=by
   show zg7 (zdJ (n+2)) (n+2) false _=_;rw[zCb (by rw[t52];decide) (by rw[t52];decide) (by rw[t52];decide)];exact zCp (zCo (X:=[t5]) (zCD t51) S.facts.1) S
  rw[hb];show some (mkFun ((zaL ⟨t2::t3::t4::t5::R,none⟩).1::(zax (zaL ⟨t2::t3::t4::t5::R,none⟩).2).1) _,_)=_;rw[zCc t21];simp only[hn]
 show zg7 (zdJ (n+4)) (n+4) outer ⟨t0::(([t1,t2,t3,t4,t5]++[t6])++(Z++(Y++R))),none⟩=_;rw[zCb (by rw[JU];decide) (by rw[JU];decide) (by rw[JU];decide)];exact zCp (zCy (k:=n+1) hf hz hy S.facts.1) S
variable {n:Nat} {Y Z R:List Tok} {ey ez:Ex}{m1 m2 m3 m4 m5:Tok}
theorem zFM{ex:Rd}(h1:sh m1=(4,[123]))(h2:sh m2=(3,[50]))(h3:sh m3=(4,[44]))(h4:sh m4=(3,[50]))(h5:sh m5=(4,[125])):Atm ex [m1,m2,m3,m4,m5] (zcU 2 2):=fun R=>by
 obtain ⟨a1,b1⟩:=Prod.mk.inj h1;obtain ⟨a2,b2⟩:=Prod.mk.inj h2;obtain ⟨a3,b3⟩:=Prod.mk.inj h3;obtain ⟨a4,b4⟩:=Prod.mk.inj h4;obtain ⟨a5,b5⟩:=Prod.mk.inj h5;refine ⟨by simp[zcI,St.is,St.kind,St.hd,b1],?_⟩;unfold zeU;rw[if_neg (by simp[St.kind,St.hd,a1]),if_neg (by simp[St.kind,St.hd,a1]),if_pos (by simp[St.is,St.hd,b1])];simp[zdj,zaB,want,St.is,St.kind,St.hd,St.adv,a2,b2,b3,a4,b4,b5,Th.val]
variable {l k g b ar:Tok}
theorem zFL{a':Tok}(h1:sh l=(4,[60]))(h2:sh k=(3,[50]))(h3:sh g=(4,[62]))(ha:a.k=2)(hb:b.k=2)(h4:sh ar=(4,[45,62]))(h5:a'.k=2)(h6:a'.s≠zqP/\a'.s≠zjO/\a'.s≠[92])(S:Stop R)(hf:za8 true ⟨R,none⟩=false):zeD (zdJ (n+3)) true (n+3) [] [] ⟨l::k::g::a::b::ar::a'::R,none⟩=some ([(2,[a,b])],[zbW a'],⟨R,none⟩):=by
 obtain ⟨a1,b1⟩:=Prod.mk.inj h1;obtain ⟨a2,b2⟩:=Prod.mk.inj h2;obtain ⟨a3,b3⟩:=Prod.mk.inj h3;obtain ⟨a4,b4⟩:=Prod.mk.inj h4;have hn:zax ⟨a::b::ar::a'::R,none⟩=([a,b],⟨ar::a'::R,none⟩):=by simp[zax,ha,hb,a4]
 have hk:zaB 1 99 ⟨k::g::a::b::ar::a'::R,none⟩=(2,⟨g::a::b::ar::a'::R,none⟩):=by simp[zaB,St.kind,St.hd,St.adv,a2,b2,Th.val]
 have he:zdJ (n+3) true ⟨a'::R,none⟩=some (zbW a',⟨R,none⟩):=by
  show zg7 (zdJ (n+2)) (n+2) true _=_;rw[zCb h6.1 h6.2.1 h6.2.2];exact zCp (zCo (X:=[a']) (zCD h5) S.facts.1) S
 have hp:ztN (zdJ (n+3)) true ⟨l::k::g::a::b::ar::a'::R,none⟩=some ((2,[a,b]),zbW a',⟨R,none⟩):=by
  unfold ztN;simp only[zCm b1,hk,zCm b3,hn,zCm b4,he,zzD]
 rw[zeD,hp];simp only[zzD,hf];rfl
variable {c o:Tok}
theorem zGi{a':Tok}(hc:sh c=(4,zjO))(h1:sh m1=(4,[123]))(h2:sh m2=(3,[50]))(h3:sh m3=(4,[44]))(h4:sh m4=(3,[50]))(h5:sh m5=(4,[125]))(ho:sh o=(4,sOf))(k1:sh l=(4,[60]))(k2:sh k=(3,[50]))(k3:sh g=(4,[62]))(ka:sh a=(2,[97]))(kb:sh b=(2,[98]))(k4:sh ar=(4,[45,62]))(k5:sh a'=(2,[97]))(hy:Atm (zdJ (n+3)) Y ey)(hz:Atm (zdJ (n+3)) Z ez)(S:Stop R)(hf:za8 true ⟨R,none⟩=false):
  zdJ (n+5) true ⟨c::([m1,m2,m3,m4,m5]++(Y++(Z++(o::l::k::g::a::b::ar::a'::R)))),none⟩=some (mkCase (zch (zch (zcU 2 2) ey) ez) [(2,[a,b])] [zbW a'],⟨R,none⟩):=by
 obtain ⟨c1,c2⟩:=Prod.mk.inj hc;obtain ⟨o1,o2⟩:=Prod.mk.inj ho;obtain ⟨m11,m12⟩:=Prod.mk.inj h1;obtain ⟨x1,x2⟩:=Prod.mk.inj k5;have so:Stop (o::l::k::g::a::b::ar::a'::R):=⟨_,_,rfl,o1,.inr (.inr (.inr o2))⟩;have hs:zdJ (n+4) false ⟨[m1,m2,m3,m4,m5]++(Y++(Z++(o::l::k::g::a::b::ar::a'::R))),none⟩=some (zch (zch (zcU 2 2) ey) ez,⟨o::l::k::g::a::b::ar::a'::R,none⟩):=by
  show zg7 (zdJ (n+3)) (n+3) false ⟨m1::(m2::m3::m4::m5::(Y++(Z++(o::l::k::g::a::b::ar::a'::R)))),none⟩=_;rw[zCb (by rw[m12];decide) (by rw[m12];decide) (by rw[m12];decide)];exact zCp (zCy (X:=[m1,m2,m3,m4,m5]) (k:=n) (zFM h1 h2 h3 h4 h5) hy hz so.facts.1) so
 show zg7 (zdJ (n+4)) (n+4) true _=_;unfold zg7;rw[if_neg (by simp[St.is,St.hd,c2,zqP,zjO]),if_pos (by simp[St.is,St.hd,c2])];unfold zjy;show (zdJ (n+4) false ⟨[m1,m2,m3,m4,m5]++(Y++(Z++(o::l::k::g::a::b::ar::a'::R))),none⟩).bind _=_;rw[hs];simp only[zzD,zCm o2];rw[zFL (n:=n+1) k1 k2 k3 (Prod.mk.inj ka).1 (Prod.mk.inj kb).1 k4 x1 (by rw[x2];decide) S hf];rfl
variable {n:Nat} {Y Z R:List Tok} {ey ez:Ex}
theorem zF6{n1 lt n2:Tok}(h1:sh n1=(3,[49]))(h2:sh lt=(4,[60]))(h3:sh n2=(3,[50]))(S:Stop R):zdJ (n+3) false ⟨n1::lt::n2::R,none⟩=some (ziR lt (mkNum 1) (mkNum 2),⟨R,none⟩):=by
 obtain ⟨a1,b1⟩:=Prod.mk.inj h1;obtain ⟨a2,b2⟩:=Prod.mk.inj h2;obtain ⟨a3,b3⟩:=Prod.mk.inj h3;show zg7 (zdJ (n+2)) (n+2) false _=_;rw[zCb (by rw[b1];decide) (by rw[b1];decide) (by rw[b1];decide)];have e1:Atm (zdJ (n+2)) [n1] (mkNum 1):=by have:=zEq (ex:=zdJ (n+2)) a1;rwa [b1]at this
 have e2:Atm (zdJ (n+2)) [n2] (mkNum 2):=by have:=zEq (ex:=zdJ (n+2)) a3;rwa [b3]at this
 have p1:zu0 (zdJ (n+2)) (n+2) ⟨[n1]++lt::n2::R,none⟩=some (mkNum 1,⟨lt::n2::R,none⟩):=by
  unfold zu0;rw[zCJ (k:=n+1) (zCo e1 (by simp[zcI,St.is,St.kind,St.hd,a2,b2])) (by simp[St.is,St.hd,b2]) (by simp[St.is,St.hd,b2])];exact zCI (by simp[St.is,St.hd,b2]) (by simp[St.is,St.hd,b2])
 have p2:zu0 (zdJ (n+2)) (n+2) ⟨[n2]++R,none⟩=some (mkNum 2,⟨R,none⟩):=zD1 (k:=n+1) (zCJ (zCo e2 S.facts.1) S.facts.2.1 S.facts.2.2.1) S;unfold zjD;show (zu0 (zdJ (n+2)) (n+2) ⟨[n1]++lt::n2::R,none⟩).bind _=_;rw[p1];simp only[zzD];rw[if_pos (by simp[St.is,St.hd,b2])];show (zu0 (zdJ (n+2)) (n+2) ⟨[n2]++R,none⟩).bind _=_;rw[p2];rfl
theorem zFx{v:Nat}{T:List Tok}(h1:sh l=(4,[60]))(h2:k.k=3)(wJ:Th.val k.s=v)(hv:1<=v/\v<=99)(h3:sh g=(4,[62]))(h4:sh ar=(4,[45,62]))(he:zdJ (n+3) true ⟨T,none⟩=some (e,⟨R,none⟩)):ztN (zdJ (n+3)) true ⟨l::k::g::ar::T,none⟩=some ((v,[]),e,⟨R,none⟩):=by
 obtain ⟨a1,b1⟩:=Prod.mk.inj h1;obtain ⟨a3,b3⟩:=Prod.mk.inj h3;obtain ⟨a4,b4⟩:=Prod.mk.inj h4;have hn:zax ⟨ar::T,none⟩=([],⟨ar::T,none⟩):=by simp[zax,a4]
 have hk:zaB 1 99 ⟨k::g::ar::T,none⟩=(v,⟨g::ar::T,none⟩):=by simp[zaB,St.kind,St.hd,St.adv,h2,wJ,hv]
 unfold ztN;simp only[zCm b1,hk,zCm b3,hn,zCm b4,he,zzD]
variable {s:Tok}
theorem zGj{n1 lt n2 l' k' g' JS:Tok}(hc:sh c=(4,zjO))(h1:sh n1=(3,[49]))(h2:sh lt=(4,[60]))(h3:sh n2=(3,[50]))(ho:sh o=(4,sOf))(k1:sh l=(4,[60]))(k2:sh k=(3,[50]))(k3:sh g=(4,[62]))(k4:sh ar=(4,[45,62]))(hs:sh s=(4,[59]))(j1:sh l'=(4,[60]))(j2:sh k'=(3,[49]))(j3:sh g'=(4,[62]))(j4:sh JS=(4,[45,62]))(hy:∀ R,Stop R->zdJ (n+3) true ⟨Y++R,none⟩=some (ey,⟨R,none⟩))(hz:∀ R,Stop R->zdJ (n+3) true ⟨Z++R,none⟩=some (ez,⟨R,none⟩))(S:Stop R)(hf:za8 true ⟨R,none⟩=false):
  zdJ (n+4) true ⟨c::n1::lt::n2::o::l::k::g::ar::(Y++s::l'::k'::g'::JS::(Z++R)),none⟩=some (mkCase (ziR lt (mkNum 1) (mkNum 2)) [(2,[]),(1,[])] [ey,ez],⟨R,none⟩):=by
 obtain ⟨c1,c2⟩:=Prod.mk.inj hc;obtain ⟨o1,o2⟩:=Prod.mk.inj ho;obtain ⟨s1,s2⟩:=Prod.mk.inj hs;have so:Stop (o::l::k::g::ar::(Y++s::l'::k'::g'::JS::(Z++R))):=⟨_,_,rfl,o1,.inr (.inr (.inr o2))⟩;have ss:Stop (s::l'::k'::g'::JS::(Z++R)):=⟨_,_,rfl,s1,.inr (.inl s2)⟩;have ha:za8 true ⟨s::l'::k'::g'::JS::(Z++R),none⟩=true:=by simp[za8,St.is,St.hd,s2,(Prod.mk.inj j1).2]
 have p1:=zFx (n:=n) k1 (Prod.mk.inj k2).1 (show Th.val k.s=2 by rw[(Prod.mk.inj k2).2];rfl) (by omega) k3 k4 (hy _ ss);have p2:=zFx (n:=n) j1 (Prod.mk.inj j2).1 (show Th.val k'.s=1 by rw[(Prod.mk.inj j2).2];rfl) (by omega) j3 j4 (hz _ S);show zg7 (zdJ (n+3)) (n+3) true _=_;unfold zg7;rw[if_neg (by simp[St.is,St.hd,c2,zqP,zjO]),if_pos (by simp[St.is,St.hd,c2])];unfold zjy;show (zdJ (n+3) false ⟨n1::lt::n2::o::l::k::g::ar::(Y++s::l'::k'::g'::JS::(Z++R)),none⟩).bind _=_;rw[zF6 h1 h2 h3 so];simp only[zzD,zCm o2];rw[zeD,p1];simp only[zzD,ha,if_true];show (zeD (zdJ (n+3)) true (n+2) ([]++[(2,[])]) ([]++[ey]) ⟨l'::k'::g'::JS::(Z++R),none⟩).bind _=_;rw[zeD,p2];simp only[zzD,hf];rfl
variable {n:Nat} {Y Z R:List Tok} {ey ez:Ex}
theorem zGd{ex:Rd}{X Y R:List Tok}{f:Ex}{k:Nat}(hx:Atm ex X e)(hy:Atm ex Y f)(hb:zcI ⟨R,none⟩=false):zhP ex (k+2) ⟨X++(Y++R),none⟩=some (zch e f,⟨R,none⟩):=by
 unfold zhP;rw[(hx _).2];simp only[zzD];rw[zcV,if_pos (hy _).1,(hy _).2];simp only[zzD,zcV,hb];rfl
theorem zFY{lp b1 rp:Tok}(h1:sh m1=(4,[123]))(h2:sh m2=(3,[50]))(h3:sh m3=(4,[44]))(h4:sh m4=(3,[50]))(h5:sh m5=(4,[125]))(k1:sh lp=(4,[40]))(k2:sh b1=(2,[98]))(k3:sh rp=(4,[41]))(hy:Atm (zdJ (n+4)) Y ey)(hz:Atm (zdJ (n+3)) Z ez)(S:Stop R)(outer:Bool):
  zdJ (n+5) outer ⟨[m1,m2,m3,m4,m5]++(Y++(lp::((b1::Z)++[rp])++R)),none⟩=some (zch (zch (zcU 2 2) ey) (zch (zbW b1) ez),⟨R,none⟩):=by
 obtain ⟨m11,m12⟩:=Prod.mk.inj h1;obtain ⟨JA,Ip⟩:=Prod.mk.inj k2;have hp:Atm (zdJ (n+4)) (lp::((b1::Z)++[rp])) (zch (zbW b1) ez):=zCi k1 k3 fun R S=>by
  show zg7 (zdJ (n+3)) (n+3) false ⟨b1::(Z++R),none⟩=_;rw[zCb (by rw[Ip];decide) (by rw[Ip];decide) (by rw[Ip];decide)];exact zCp (k:=n+2) (zGd (X:=[b1]) (k:=n+1) (zCD JA) hz S.facts.1) S
 show zg7 (zdJ (n+4)) (n+4) outer ⟨m1::(m2::m3::m4::m5::(Y++(lp::((b1::Z)++[rp])++R))),none⟩=_;rw[zCb (by rw[m12];decide) (by rw[m12];decide) (by rw[m12];decide)];exact zCp (zCy (X:=[m1,m2,m3,m4,m5]) (k:=n+1) (zFM h1 h2 h3 h4 h5) hy hp S.facts.1) S
theorem zF3{d a1:Tok}(h1:sh s=(4,[92]))(h2:sh c=(2,[99]))(h3:sh d=(4,[46]))(h4:sh a1=(2,[97]))(S:Stop R)(outer:Bool):zdJ (n+4) outer ⟨s::c::d::a1::R,none⟩=some (mkFun [c] (zbW a1),⟨R,none⟩):=by
 obtain ⟨s1,s2⟩:=Prod.mk.inj h1;obtain ⟨c1,c2⟩:=Prod.mk.inj h2;obtain ⟨d1,d2⟩:=Prod.mk.inj h3;obtain ⟨J6,a12⟩:=Prod.mk.inj h4;show zg7 (zdJ (n+3)) (n+3) outer _=_;unfold zg7;rw[if_neg (by simp[St.is,St.hd,s2,zqP]),if_neg (by simp[St.is,St.hd,s2,zjO]),if_pos (by simp[St.is,St.hd,s2])];unfold ztO;show (zdJ (n+3) outer (want [46] (zax (zaL ⟨c::d::a1::R,none⟩).2).2)).bind _=_;have hn:zax ⟨d::a1::R,none⟩=([],⟨d::a1::R,none⟩):=by simp[zax,d1]
 rw[zCc c1];simp only[hn,zCm d2];have hb:zdJ (n+3) outer ⟨a1::R,none⟩=some (zbW a1,⟨R,none⟩):=by
  show zg7 (zdJ (n+2)) (n+2) outer _=_;rw[zCb (by rw[a12];decide) (by rw[a12];decide) (by rw[a12];decide)];exact zCp (zCo (X:=[a1]) (zCD J6) S.facts.1) S
 rw[hb];show some (mkFun ((zaL ⟨c::d::a1::R,none⟩).1::(zax (zaL ⟨c::d::a1::R,none⟩).2).1) _,_)=_;rw[zCc c1];simp only[hn]
theorem zFT{x y x':Tok}(hc:sh c=(4,zjO))(ha:sh a=(2,[97]))(ho:sh o=(4,sOf))(k1:sh l=(4,[60]))(k2:sh k=(3,[50]))(k3:sh g=(4,[62]))(kx:sh x=(2,[104]))(ky:sh y=(2,[116]))(k4:sh ar=(4,[45,62]))(k5:sh x'=(2,[104]))(S:Stop R)(hf:za8 true ⟨R,none⟩=false):
  zdJ (n+4) true ⟨c::a::o::l::k::g::x::y::ar::x'::R,none⟩=some (mkCase (zbW a) [(2,[x,y])] [zbW x'],⟨R,none⟩):=by
 obtain ⟨c1,c2⟩:=Prod.mk.inj hc;obtain ⟨a1,a2⟩:=Prod.mk.inj ha;obtain ⟨o1,o2⟩:=Prod.mk.inj ho;obtain ⟨x1,x2⟩:=Prod.mk.inj k5;have so:Stop (o::l::k::g::x::y::ar::x'::R):=⟨_,_,rfl,o1,.inr (.inr (.inr o2))⟩;have hs:zdJ (n+3) false ⟨a::o::l::k::g::x::y::ar::x'::R,none⟩=some (zbW a,⟨o::l::k::g::x::y::ar::x'::R,none⟩):=by
  show zg7 (zdJ (n+2)) (n+2) false _=_;rw[zCb (by rw[a2];decide) (by rw[a2];decide) (by rw[a2];decide)];exact zCp (zCo (X:=[a]) (zCD a1) so.facts.1) so
 show zg7 (zdJ (n+3)) (n+3) true _=_;unfold zg7;rw[if_neg (by simp[St.is,St.hd,c2,zqP,zjO]),if_pos (by simp[St.is,St.hd,c2])];unfold zjy;show (zdJ (n+3) false ⟨a::o::l::k::g::x::y::ar::x'::R,none⟩).bind _=_;rw[hs];simp only[zzD,zCm o2];rw[zFL (n:=n) k1 k2 k3 (Prod.mk.inj kx).1 (Prod.mk.inj ky).1 k4 x1 (by rw[x2];decide) S hf];rfl
theorem zGt{r e1 e2 i:Tok}{A B C:List Tok}{ea eb ec:Ex}(h1:sh t=(4,zqP))(h2:sh r=(4,zo8))(h3:a.k=2)(h4:sh e1=(4,[61]))(h5:sh s=(4,[59]))(h6:b.k=2)(h7:sh e2=(4,[61]))(h8:sh i=(4,sIn))(ha:∀ R,Stop R->zdJ (n+3) true ⟨A++R,none⟩=some (ea,⟨R,none⟩))(hb:∀ R,Stop R->zdJ (n+3) true ⟨B++R,none⟩=some (eb,⟨R,none⟩))(hc:zdJ (n+3) true ⟨C,none⟩=some (ec,⟨R,none⟩)):
  zdJ (n+4) true ⟨t::r::a::e1::(A++s::b::e2::(B++i::C)),none⟩=some (mkLet true [a,b] [ea,eb] ec,⟨R,none⟩):=by
 obtain ⟨t1,t2⟩:=Prod.mk.inj h1;obtain ⟨r1,r2⟩:=Prod.mk.inj h2;obtain ⟨JD,Jh⟩:=Prod.mk.inj h4;obtain ⟨s1,s2⟩:=Prod.mk.inj h5;obtain ⟨JE,Ji⟩:=Prod.mk.inj h7;obtain ⟨i1,i2⟩:=Prod.mk.inj h8;have ss:Stop (s::b::e2::(B++i::C)):=⟨_,_,rfl,s1,.inr (.inl s2)⟩;have si:Stop (i::C):=⟨_,_,rfl,i1,.inr (.inr (.inl i2))⟩;have ek:zcu (zdJ (n+3)) (n+3) [] [] ⟨a::e1::(A++s::b::e2::(B++i::C)),none⟩=some ([a,b],[ea,eb],⟨i::C,none⟩):=by
  rw[zcu];simp only[zCc h3,zCm Jh];rw[ha _ ss];simp only[zzD];rw[if_pos (by simp[St.is,St.hd,s2]),zcu];show (zdJ (n+3) true (want [61] (zaL ⟨b::e2::(B++i::C),none⟩).2)).bind _=_;rw[zCc h6];simp only[zCm Ji];rw[hb _ si];simp only[zzD];rw[if_neg (by simp[St.is,St.hd,i2,sIn])];show some ([]++[a]++[(zaL ⟨b::e2::(B++i::C),none⟩).1],[]++[ea]++[eb],_)=_;rw[zCc h6];rfl
 show zg7 (zdJ (n+3)) (n+3) true _=_;unfold zg7;rw[if_pos (by simp[St.is,St.hd,t2])];unfold ztQ;have hr:St.is zo8 (St.adv ⟨t::r::a::e1::(A++s::b::e2::(B++i::C)),none⟩)=true:=by simp[St.is,St.hd,St.adv,r2]
 simp only[hr,if_true];show (zcu (zdJ (n+3)) (n+3) [] [] ⟨a::e1::(A++s::b::e2::(B++i::C)),none⟩).bind _=_;rw[ek];simp only[zzD,zCm i2];rw[hc];rfl
end Sg
end Go.Proofs.YtgahgkddaljmkaaGreatDoor
namespace Go.Proofs.YtgahgkddaljmkaaGreatDoor
open Tryz
namespace Sg
open Th
theorem zCz:∀ (n:Nat) (t:List UInt8) (p q:Nat),(zdN n t p).map sh=(zdN n t q).map sh
 |0,_,_,_=>rfl
 |n+1,t,p,q=>by
  rw[zdN,zdN];simp only[zza,sh];split
  ·rfl
  ·rw[zCz n]
def lx (n:Nat) (t:List UInt8):List (Nat × List UInt8):=(zdN n t 0).map sh
theorem zGR(n:Nat)(t:List UInt8)(p:Nat):(zdN n t p).map sh=lx n t:=zCz n t p 0
theorem zEX(n:Nat){ds rest:List UInt8}{e:UInt8}(he:zba e=false)(h1:ds≠[])(h2:∀ c∈ds,zba c=true)(h3:ds.length<=9):lx (n+1) (ds++e::rest)=(3,ds)::lx n (e::rest):=by
 cases ds with
 |nil=>exact absurd rfl h1
 |cons c ds=>
  have hc:=h2 c (by simp);have hb:zda c=false:=by
   unfold zba at hc;unfold zda;simp only[zzv,decide_eq_true_eq]at hc;simp only[Bool.or_eq_false_iff,beq_eq_false_iff_ne,ne_eq];constructor <;> intro e <;> subst e <;> simp at hc
  have hl:isLet c=false:=by
   unfold zba at hc;unfold isLet;simp only[zzv,decide_eq_true_eq]at hc;rw[Bool.and_eq_false_iff];exact .inl (by simp;omega)
  have ng:((c::ds)++e::rest).takeWhile zba=c::ds:=by
   rw[List.takeWhile_append_of_pos h2,List.takeWhile_cons_of_neg (by rw[he];simp),zzS]
  have cV:((c::ds)++e::rest).takeWhile zda=[]:=by
   rw[zy7,List.takeWhile_cons_of_neg (by rw[hb];simp)]
  have hf:first ((c::ds)++e::rest)=(3,c::ds):=by
   have:first ((c::ds)++e::rest)=if isLet c then word (((c::ds)++e::rest).takeWhile zlx) else if zba c then zo7 (((c::ds)++e::rest).takeWhile zba) else if zbH ((c::ds)++e::rest)=0 then (1,[]) else (4,((c::ds)++e::rest).take (zbH ((c::ds)++e::rest))):=rfl
   rw[this,hl,hc,ng];simp only[zzw,if_false,if_true];unfold zo7;rw[if_neg (by omega)]
  unfold lx;rw[zdN];rw[cV,zzm,zzY,hf,if_neg (by omega),List.drop_left];simp only[zza,sh];rw[zCz _ _ _ 0]
theorem zE8{n q:Nat}{a u:List UInt8}{l:List (Nat × List UInt8)}(h:(zdN n (a++u) 0).map sh=l++(zdN q u a.length).map sh):lx n (a++u)=l++lx q u:=by
 unfold lx;rw[h,zCz q u _ 0]
theorem zC7{v:Nat}(h:v<40):zrn 2 v≠[]/\(∀ c∈zrn 2 v,zba c=true)/\(zrn 2 v).length<=9:=by
 revert v
 decide +kernel
theorem zDj(n:Nat)(u:List UInt8):lx (n+1) (40::u)=[(4,[40])]++lx n u:=zE8 (a:=[40]) (by kernel_rfl)
theorem zCX(n:Nat)(u:List UInt8):lx (n+1) (41::u)=[(4,[41])]++lx n u:=zE8 (a:=[41]) (by kernel_rfl)
theorem zCx(n:Nat)(u:List UInt8):lx (n+1) (32::u)=lx (n+1) u:=by
 unfold lx;rw[zdN,zdN];have hb:(32::u:List UInt8).takeWhile zda=32::u.takeWhile zda:=List.takeWhile_cons_of_pos (by decide);rw[hb];simp only[zy8,List.drop_succ_cons,zza,sh];split
 ·rfl
 ·rw[zCz _ _ _ (0+(u.takeWhile zda).length+(first (u.drop (u.takeWhile zda).length)).2.length)]
theorem zCY(n:Nat){j:Nat}(hj:j<4)(u:List UInt8):lx (n+1) (Sm.sign j++32::u)=[(4,Sm.sign j)]++lx n (32::u):=by
 obtain rfl|rfl|rfl|rfl:j=0\/j=1\/j=2\/j=3:=by omega
 ·exact zE8 (a:=[43]) (by kernel_rfl)
 ·exact zE8 (a:=[45]) (by kernel_rfl)
 ·exact zE8 (a:=[42]) (by kernel_rfl)
 ·exact zE8 (a:=[47]) (by kernel_rfl)
theorem zEx(n:Nat){j:Nat}(hj:j<4)(u:List UInt8):lx (n+1) (Sm.name j++32::u)=[(2,Sm.name j)]++lx n (32::u):=by
 obtain rfl|rfl|rfl|rfl:j=0\/j=1\/j=2\/j=3:=by omega
 ·exact zE8 (a:=[97,100,100]) (by kernel_rfl)
 ·exact zE8 (a:=[115,117,98]) (by kernel_rfl)
 ·exact zE8 (a:=[109,117,108]) (by kernel_rfl)
 ·exact zE8 (a:=[100,105,118]) (by kernel_rfl)
theorem zEW(n:Nat)(u:List UInt8):lx (n+4) (108::101::116::32::112::32::61::32::40::u)=[(4,zqP),(2,[112]),(4,[61]),(4,[40])]++lx n u:=zE8 (a:=[108,101,116,32,112,32,61,32,40]) (by kernel_rfl)
theorem zEU(n:Nat)(u:List UInt8):lx (n+5) (41::59::32::113::32::61::32::40::u)=[(4,[41]),(4,[59]),(2,[113]),(4,[61]),(4,[40])]++lx n u:=zE8 (a:=[41,59,32,113,32,61,32,40]) (by kernel_rfl)
theorem lx_in(n:Nat)(u:List UInt8):lx (n+3) (41::32::105::110::32::112::32::u)=[(4,[41]),(4,sIn),(2,[112])]++lx n (32::u):=zE8 (a:=[41,32,105,110,32,112]) (by kernel_rfl)
theorem zEV(n:Nat)(u:List UInt8):lx (n+6) (40::92::112::32::113::46::32::112::32::u)=[(4,[40]),(4,[92]),(2,[112]),(2,[113]),(4,[46]),(2,[112])]++lx n (32::u):=zE8 (a:=[40,92,112,32,113,46,32,112]) (by kernel_rfl)
theorem lx_q(n:Nat){e:UInt8}(he:e=41\/e=59)(u:List UInt8):lx (n+1) (113::e::u)=[(2,[113])]++lx n (e::u):=by
 rcases he with rfl|rfl
 ·exact zE8 (a:=[113]) (by kernel_rfl)
 ·exact zE8 (a:=[113]) (by kernel_rfl)
theorem lex:∀ (x:Sm) (d:Nat),Sm.Ok d x->∀ (n:Nat) (e:UInt8) (u:List UInt8),e=41\/e=59->lx (n+(tk x).length) (x.text++e::u)=tk x++lx n (e::u)
 |.num v,d,ho,n,e,u,he=>by
  have hv:v<40:=by cases d <;> exact ho
  obtain ⟨h1,h2,h3⟩:=zC7 hv;exact zEX n (by rcases he with rfl|rfl <;> rfl) h1 h2 h3
 |.op Ij k a b,0,ho,_,_,_,_=>ho.elim
 |.op Ij k a b,d+1,⟨h1,h8,hk,oa,ob⟩,n,e,u,he=>by
  have IA:=fun m (r:List UInt8)=>lex a d oa m 41 r (.inl rfl)
  have IB:=fun m (r:List UInt8)=>lex b d ob m 41 r (.inl rfl)
  rw[tk,Sm.text];split
  ·have et:Sm.par a.text++[32]++Sm.sign k++[32]++Sm.par b.text++e::u=40::(a.text++41::32::(Sm.sign k++32::40::(b.text++41::e::u))):=by simp[Sm.par]
   have el:n+(tkP (tk a)++(4,Sm.sign k)::tkP (tk b)).length=n+1+(tk b).length+1+1+1+(tk a).length+1:=by simp;omega
   rw[et,el,zDj,IA,zCX,zCx,zCY _ hk,zCx,zDj,IB,zCX];simp
  ·split
   ·have et:Sm.name k++[32]++Sm.par a.text++[32]++Sm.par b.text++e::u=Sm.name k++32::40::(a.text++41::32::40::(b.text++41::e::u)):=by simp[Sm.par]
    have el:n+((2,Sm.name k)::(tkP (tk a)++tkP (tk b))).length=n+1+(tk b).length+1+1+(tk a).length+1+1:=by simp;omega
    rw[et,el,zEx _ hk,zCx,zDj,IA,zCX,zCx,zDj,IB,zCX];simp
   ·split
    ·have et:[108,101,116,32,112,32,61,32]++Sm.par a.text++[59,32,113,32,61,32]++Sm.par b.text++[32,105,110,32,112,32]++Sm.sign k++[32,113]++e::u=108::101::116::32::112::32::61::32::40::(a.text++41::59::32::113::32::61::32::40::(b.text++41::32::105::110::32::112::32::(Sm.sign k++32::113::e::u))):=by simp[Sm.par]
     have el:n+((4,zqP)::(2,[112])::(4,[61])::(tkP (tk a)++(4,[59])::(2,[113])::(4,[61])::(tkP (tk b)++[(4,sIn),(2,[112]),(4,Sm.sign k),(2,[113])]))).length=n+1+1+3+(tk b).length+5+(tk a).length+4:=by simp;omega
     rw[et,el,zEW,IA,zEU,IB,lx_in,zCx,zCY _ hk,zCx,lx_q _ he];simp
    ·have et:[40,92,112,32,113,46,32,112,32]++Sm.sign k++[32,113,41,32]++Sm.par a.text++[32]++Sm.par b.text++e::u=40::92::112::32::113::46::32::112::32::(Sm.sign k++32::113::41::32::40::(a.text++41::32::40::(b.text++41::e::u))):=by simp[Sm.par]
     have el:n+((4,[40])::(4,[92])::(2,[112])::(2,[113])::(4,[46])::(2,[112])::(4,Sm.sign k)::(2,[113])::(4,[41])::(tkP (tk a)++tkP (tk b))).length=n+1+(tk b).length+1+1+(tk a).length+1+1+1+1+6:=by simp;omega
     rw[et,el,zEV,zCx,zCY _ hk,zCx,lx_q _ (.inl rfl),zCX,zCx,zDj,IA,zCX,zCx,zDj,IB,zCX];simp
end Sg
end Go.Proofs.YtgahgkddaljmkaaGreatDoor
