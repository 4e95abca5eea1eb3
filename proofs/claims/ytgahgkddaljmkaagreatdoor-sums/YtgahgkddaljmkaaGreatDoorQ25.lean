/- SmP .. LiC -/
import Derived.Test.YtgahgkddaljmkaaGreatDoorQ24
set_option maxRecDepth 100000
set_option maxHeartbeats 4000000
namespace Go.Proofs.YtgahgkddaljmkaaGreatDoor
open Tryz
namespace Sg
open Th Ab.Sg
def sh (t:Tok):Nat × List UInt8:=(t.k,t.s)
abbrev tkP (l:List (Nat × List UInt8)):List (Nat × List UInt8):=(4,[40])::(l++[(4,[41])])
def tk:Sm->List (Nat × List UInt8)
 |.num n=>[(3,zrn 2 n)]
 |.op Ij k a b=>
  if Ij<5 then tkP (tk a)++(4,Sm.sign k)::tkP (tk b) else
  if Ij=5 then (2,Sm.name k)::(tkP (tk a)++tkP (tk b)) else
  if Ij=6 then (4,zqP)::(2,[112])::(4,[61])::(tkP (tk a)++(4,[59])::(2,[113])::(4,[61])::(tkP (tk b)++[(4,sIn),(2,[112]),(4,Sm.sign k),(2,[113])])) else
  (4,[40])::(4,[92])::(2,[112])::(2,[113])::(4,[46])::(2,[112])::(4,Sm.sign k)::(2,[113])::(4,[41])::(tkP (tk a)++tkP (tk b))
def Atm (ex:Rd) (X:List Tok) (e:Ex):Prop:=∀ R,zcI ⟨X++R,none⟩=true/\zeU ex ⟨X++R,none⟩=some (e,⟨R,none⟩)
def Stop (R:List Tok):Prop:=∃ t R',R=t::R'/\t.k=4/\(t.s=[41]\/t.s=[59]\/t.s=sIn)
variable {R:List Tok}
theorem Stop.facts(h:Stop R):zcI ⟨R,none⟩=false/\St.is [42] ⟨R,none⟩=false/\St.is [47] ⟨R,none⟩=false/\St.is [43] ⟨R,none⟩=false/\St.is [45] ⟨R,none⟩=false/\St.is [61,61] ⟨R,none⟩=false/\St.is [60] ⟨R,none⟩=false:=by
 obtain ⟨t,R',rfl,h1,h2⟩:=h;rcases h2 with h2|h2|h2
 all_goals simp[zcI,St.is,St.kind,St.hd,h1,h2,sIn]
variable {ex:Rd}{X:List Tok}{e:Ex}{k:Nat}
theorem zCo(h:Atm ex X e)(hb:zcI ⟨R,none⟩=false):zhP ex (k+1) ⟨X++R,none⟩=some (e,⟨R,none⟩):=by
 unfold zhP;rw[(h R).2];simp only[zzD,zcV,hb];rfl
theorem zCy{Y Z:List Tok}{f g:Ex}(hx:Atm ex X e)(hy:Atm ex Y f)(hz:Atm ex Z g)(hb:zcI ⟨R,none⟩=false):zhP ex (k+3) ⟨X++(Y++(Z++R)),none⟩=some (zch (zch e f) g,⟨R,none⟩):=by
 unfold zhP;rw[(hx _).2];simp only[zzD];rw[zcV,if_pos (hy _).1,(hy _).2];simp only[zzD];rw[zcV,if_pos (hz _).1,(hz _).2];simp only[zzD,zcV,hb];rfl
theorem zCI{sub:St->Option (Ex × St)}{a b:List UInt8}{st:St}(ha:st.is a=false)(hb:st.is b=false):zku sub a b (k+1) e st=some (e,st):=by
 rw[zku,ha,hb];rfl
variable {T:List Tok}
theorem zCJ(h:zhP ex (k+1) ⟨T,none⟩=some (e,⟨R,none⟩))(h1:St.is [42] ⟨R,none⟩=false)(h2:St.is [47] ⟨R,none⟩=false):zcG ex (k+1) ⟨T,none⟩=some (e,⟨R,none⟩):=by
 unfold zcG;rw[h];exact zCI h1 h2
theorem zDe(h:zu0 ex (k+1) ⟨T,none⟩=some (e,⟨R,none⟩))(S:Stop R):zjD ex (k+1) ⟨T,none⟩=some (e,⟨R,none⟩):=by
 unfold zjD;rw[h];simp only[zzD,S.facts];rfl
theorem zD1(h:zcG ex (k+1) ⟨T,none⟩=some (e,⟨R,none⟩))(S:Stop R):zu0 ex (k+1) ⟨T,none⟩=some (e,⟨R,none⟩):=by
 unfold zu0;rw[h];exact zCI S.facts.2.2.2.1 S.facts.2.2.2.2.1
theorem zCp(h:zhP ex (k+1) ⟨T,none⟩=some (e,⟨R,none⟩))(S:Stop R):zjD ex (k+1) ⟨T,none⟩=some (e,⟨R,none⟩):=
 zDe (zD1 (zCJ h S.facts.2.1 S.facts.2.2.1) S) S
variable {o:Tok}{j:Nat}
theorem zD6{Y:List Tok}{f:Ex}(hj:j<4)(h4:o.k=4)(ho:o.s=Sm.sign j)(hx:Atm ex X e)(hy:Atm ex Y f)(S:Stop R):zjD ex (k+2) ⟨X++(o::(Y++R)),none⟩=some (ziR o e f,⟨R,none⟩):=by
 have hb:zcI ⟨o::(Y++R),none⟩=false:=by
  obtain rfl|rfl|rfl|rfl:j=0\/j=1\/j=2\/j=3:=by omega
  all_goals simp[zcI,St.is,St.kind,St.hd,h4,ho,Sm.sign]
 have c1:zhP ex (k+2) ⟨X++(o::(Y++R)),none⟩=some (e,⟨o::(Y++R),none⟩):=zCo (k:=k+1) hx hb;have c2:zhP ex (k+2) ⟨Y++R,none⟩=some (f,⟨R,none⟩):=zCo (k:=k+1) hy S.facts.1;refine zDe (k:=k+1) ?_ S;by_cases hp:j<2
 ·have p1:zcG ex (k+2) ⟨X++(o::(Y++R)),none⟩=some (e,⟨o::(Y++R),none⟩):=by
   obtain rfl|rfl:j=0\/j=1:=by omega
   all_goals exact zCJ (k:=k+1) c1 (by simp[St.is,St.hd,ho,Sm.sign]) (by simp[St.is,St.hd,ho,Sm.sign])
  have p2:=zCJ (k:=k+1) c2 S.facts.2.1 S.facts.2.2.1;unfold zu0;rw[p1];simp only[zzD];have hi:(St.is [43] ⟨o::(Y++R),none⟩||St.is [45] ⟨o::(Y++R),none⟩)=true:=by
   obtain rfl|rfl:j=0\/j=1:=by omega
   all_goals simp[St.is,St.hd,ho,Sm.sign]
  rw[zku,if_pos hi];show (zcG ex (k+2) ⟨Y++R,none⟩).bind _=_;rw[p2];exact zCI S.facts.2.2.2.1 S.facts.2.2.2.2.1
 ·refine zD1 (k:=k+1) ?_ S;unfold zcG;rw[c1];simp only[zzD];have hi:(St.is [42] ⟨o::(Y++R),none⟩||St.is [47] ⟨o::(Y++R),none⟩)=true:=by
   obtain rfl|rfl:j=2\/j=3:=by omega
   all_goals simp[St.is,St.hd,ho,Sm.sign]
  rw[zku,if_pos hi];show (zhP ex (k+2) ⟨Y++R,none⟩).bind _=_;rw[c2];exact zCI S.facts.2.1 S.facts.2.2.1
variable {t:Tok}
theorem zCD(h:t.k=2):Atm ex [t] (zbW t):=fun R=>by
 simp[zcI,zeU,St.kind,St.hd,St.adv,h]
theorem zEq(h:t.k=3):Atm ex [t] (mkNum (Th.val t.s)):=fun R=>by
 simp[zcI,zeU,St.kind,St.hd,St.adv,h]
theorem zCi{lp rp:Tok}(hl:sh lp=(4,[40]))(hr:sh rp=(4,[41]))(h:∀ R,Stop R->ex false ⟨T++R,none⟩=some (e,⟨R,none⟩)):Atm ex (lp::(T++[rp])) e:=fun R=>by
 obtain ⟨l1,l2⟩:=Prod.mk.inj hl;obtain ⟨r1,r2⟩:=Prod.mk.inj hr;have hs:Stop (rp::R):=⟨rp,R,rfl,r1,.inl r2⟩;have e1:lp::(T++[rp])++R=lp::(T++rp::R):=by simp
 rw[e1];refine ⟨by simp[zcI,St.is,St.kind,St.hd,l2],?_⟩;unfold zeU;rw[if_neg (by simp[St.kind,St.hd,l1]),if_neg (by simp[St.kind,St.hd,l1]),if_neg (by simp[St.is,St.hd,l2]),if_pos (by simp[St.is,St.hd,l2])];show (ex false ⟨T++rp::R,none⟩).bind _=_;rw[h _ hs];simp[want,St.is,St.hd,St.adv,r2]
theorem zCj{A:List Tok}{l:List (Nat × List UInt8)}(h:A.map sh=tkP l):∃ lp T rp,A=lp::(T++[rp])/\sh lp=(4,[40])/\T.map sh=l/\sh rp=(4,[41]):=by
 obtain ⟨lp,B,rfl,h1,h2⟩:=List.map_eq_cons_iff.1 h;obtain ⟨T,C,rfl,h3,h4⟩:=List.map_eq_append_iff.1 h2;obtain ⟨rp,D,rfl,h5,h6⟩:=List.map_eq_cons_iff.1 h4;cases List.map_eq_nil_iff.1 h6;exact ⟨lp,T,rp,rfl,h1,h3,h5⟩
theorem zCb{outer:Bool}(h1:t.s≠zqP)(h2:t.s≠zjO)(h3:t.s≠[92]):zg7 ex k outer ⟨t::R,none⟩=zjD ex k ⟨t::R,none⟩:=by
 unfold zg7;rw[if_neg (by simpa [St.is,St.hd] using h1),if_neg (by simpa [St.is,St.hd] using h2),if_neg (by simpa [St.is,St.hd] using h3)]
variable {v:Nat}
theorem zDs(h:v<40):zrn 2 v≠zqP/\zrn 2 v≠zjO/\zrn 2 v≠[92]/\Th.val (zrn 2 v)=v:=by
 revert v
 decide +kernel
theorem zDk(k:Nat):Sm.name k≠zqP/\Sm.name k≠zjO/\Sm.name k≠[92]:=by
 unfold Sm.name;split
 ·decide
 ·split
  ·decide
  ·split <;> decide
variable {n:Nat}
theorem zDa{lp rp:Tok}(hl:sh lp=(4,[40]))(hr:sh rp=(4,[41]))(h:∀ R,Stop R->zdJ (n+1) false ⟨T++R,none⟩=some (e,⟨R,none⟩))(outer:Bool)(S:Stop R):zdJ (n+2) outer ⟨lp::(T++[rp])++R,none⟩=some (e,⟨R,none⟩):=by
 obtain ⟨l1,l2⟩:=Prod.mk.inj hl;show zg7 (zdJ (n+1)) (n+1) outer ⟨lp::((T++[rp])++R),none⟩=_;rw[zCb (by rw[l2];decide) (by rw[l2];decide) (by rw[l2];decide)];exact zCp (zCo (zCi hl hr h) S.facts.1) S
theorem zDx(hj:j<4){p q:Tok}(hp:sh p=(2,[112]))(ho:sh o=(4,Sm.sign j))(hq:sh q=(2,[113]))(outer:Bool)(S:Stop R):zdJ (n+3) outer ⟨p::o::q::R,none⟩=some (ziR o (zbW p) (zbW q),⟨R,none⟩):=by
 obtain ⟨p1,p2⟩:=Prod.mk.inj hp;obtain ⟨o1,o2⟩:=Prod.mk.inj ho;obtain ⟨q1,q2⟩:=Prod.mk.inj hq;show zg7 (zdJ (n+2)) (n+2) outer ⟨p::o::q::R,none⟩=_;rw[zCb (by rw[p2];decide) (by rw[p2];decide) (by rw[p2];decide)];exact zD6 (X:=[p]) (Y:=[q]) hj o1 o2 (zCD p1) (zCD q1) S
theorem zEL{p q:Tok}(hp:sh p=(2,[112]))(ho:sh o=(4,Sm.sign j))(hq:sh q=(2,[113])):Bd j (ziR o (zbW p) (zbW q)):=
 ⟨rfl,(Prod.mk.inj ho).2,zbW p,zbW q,rfl,rfl,(Prod.mk.inj hp).2,rfl,(Prod.mk.inj hq).2⟩
theorem zCm{s:List UInt8}(h:t.s=s):want s ⟨t::R,none⟩=⟨R,none⟩:=by
 simp[want,St.is,St.hd,St.adv,h]
theorem zCc(h:t.k=2):zaL ⟨t::R,none⟩=(t,⟨R,none⟩):=by
 simp[zaL,St.kind,St.hd,St.adv,h]
theorem zEP(hj:j<4){A B:List Tok}{ea eb:Ex}{t1 p1 e1 s1 q1 e2 i1 p2 o2 q2:Tok}(ht:sh t1=(4,zqP))(sN:sh p1=(2,[112]))(IS:sh e1=(4,[61]))(aW:sh s1=(4,[59]))(cF:sh q1=(2,[113]))(IT:sh e2=(4,[61]))(GB:sh i1=(4,sIn))(fB:sh p2=(2,[112]))(jb:sh o2=(4,Sm.sign j))(bC:sh q2=(2,[113]))(ha:∀ outer R,Stop R->zdJ (n+3) outer ⟨A++R,none⟩=some (ea,⟨R,none⟩))(hb:∀ outer R,Stop R->zdJ (n+3) outer ⟨B++R,none⟩=some (eb,⟨R,none⟩))(outer:Bool)(S:Stop R):
  zdJ (n+4) outer ⟨t1::p1::e1::(A++s1::q1::e2::(B++i1::p2::o2::q2::R)),none⟩=some (mkLet false [p1,q1] [ea,eb] (ziR o2 (zbW p2) (zbW q2)),⟨R,none⟩):=by
 obtain ⟨t11,t12⟩:=Prod.mk.inj ht;obtain ⟨ID,I7⟩:=Prod.mk.inj sN;obtain ⟨JD,Jh⟩:=Prod.mk.inj IS;obtain ⟨Jv,I8⟩:=Prod.mk.inj aW;obtain ⟨IE,Ju⟩:=Prod.mk.inj cF;obtain ⟨JE,Ji⟩:=Prod.mk.inj IT;obtain ⟨pw,i12⟩:=Prod.mk.inj GB;show zg7 (zdJ (n+3)) (n+3) outer _=_;unfold zg7;rw[if_pos (by simp[St.is,St.hd,t12])];unfold ztQ;have hr:St.is zo8 (St.adv ⟨t1::p1::e1::(A++s1::q1::e2::(B++i1::p2::o2::q2::R)),none⟩)=false:=by simp[St.is,St.hd,St.adv,I7,zo8]
 have hs:Stop (s1::q1::e2::(B++i1::p2::o2::q2::R)):=⟨_,_,rfl,Jv,.inr (.inl I8)⟩;have hi:Stop (i1::p2::o2::q2::R):=⟨_,_,rfl,pw,.inr (.inr i12)⟩;have It:zcu (zdJ (n+3)) (n+3) [] [] ⟨p1::e1::(A++s1::q1::e2::(B++i1::p2::o2::q2::R)),none⟩=some ([p1,q1],[ea,eb],⟨i1::p2::o2::q2::R,none⟩):=by
  rw[zcu];simp only[zCc ID,zCm Jh];rw[ha true _ hs];simp only[zzD];rw[if_pos (by simp[St.is,St.hd,I8]),zcu];show (zdJ (n+3) true (want [61] (zaL ⟨q1::e2::(B++i1::p2::o2::q2::R),none⟩).2)).bind _=_;rw[zCc IE];simp only[zCm Ji];rw[hb true _ hi];simp only[zzD];rw[if_neg (by simp[St.is,St.hd,i12,sIn])];show some ([]++[p1]++[(zaL ⟨q1::e2::(B++i1::p2::o2::q2::R),none⟩).1],[]++[ea]++[eb],_)=_;rw[zCc IE];rfl
 simp only[hr];show (zcu (zdJ (n+3)) (n+3) [] [] ⟨p1::e1::(A++s1::q1::e2::(B++i1::p2::o2::q2::R)),none⟩).bind _=_;rw[It];simp only[zzD,zCm i12];rw[zDx hj fB jb bC outer S];rfl
theorem zEO(hj:j<4){b1 p1 q1 d1 p2 o2 q2:Tok}(aA:sh b1=(4,[92]))(sN:sh p1=(2,[112]))(cF:sh q1=(2,[113]))(IQ:sh d1=(4,[46]))(fB:sh p2=(2,[112]))(jb:sh o2=(4,Sm.sign j))(bC:sh q2=(2,[113]))(outer:Bool)(S:Stop R):
  zdJ (n+4) outer ⟨b1::p1::q1::d1::p2::o2::q2::R,none⟩=some (mkFun [p1,q1] (ziR o2 (zbW p2) (zbW q2)),⟨R,none⟩):=by
 obtain ⟨JA,Ip⟩:=Prod.mk.inj aA;obtain ⟨ID,I7⟩:=Prod.mk.inj sN;obtain ⟨IE,Ju⟩:=Prod.mk.inj cF;obtain ⟨d11,d12⟩:=Prod.mk.inj IQ;show zg7 (zdJ (n+3)) (n+3) outer _=_;unfold zg7;rw[if_neg (by simp[St.is,St.hd,Ip,zqP]),if_neg (by simp[St.is,St.hd,Ip,zjO]),if_pos (by simp[St.is,St.hd,Ip])];unfold ztO;show (zdJ (n+3) outer (want [46] (zax (zaL ⟨p1::q1::d1::p2::o2::q2::R,none⟩).2).2)).bind _=_;have hn:zax ⟨q1::d1::p2::o2::q2::R,none⟩=([q1],⟨d1::p2::o2::q2::R,none⟩):=by
  simp[zax,IE,d11]
 rw[zCc ID];simp only[hn,zCm d12];rw[zDx hj fB jb bC outer S];show some (mkFun ((zaL ⟨p1::q1::d1::p2::o2::q2::R,none⟩).1::(zax (zaL ⟨p1::q1::d1::p2::o2::q2::R,none⟩).2).1) _,_)=_;rw[zCc ID];simp only[hn]
theorem read:∀ (x:Sm) (d:Nat),Sm.Ok d x->∀ n,4*x.ct<=n->∀ T:List Tok,T.map sh=tk x->∃ e,Is x e/\∀ (outer:Bool) (R:List Tok),Stop R->zdJ n outer ⟨T++R,none⟩=some (e,⟨R,none⟩)
 |.num v,d,ho,n,hn,T,hT=>by
  have hv:v<40:=by cases d <;> exact ho
  obtain ⟨t,B,rfl,h1,h2⟩:=List.map_eq_cons_iff.1 hT;cases List.map_eq_nil_iff.1 h2;obtain ⟨t1,t2⟩:=Prod.mk.inj h1;obtain ⟨f1,f2,f3,f4⟩:=zDs hv;obtain ⟨n,rfl⟩:∃ k,n=k+2:=⟨n-2,by simp[Sm.ct]at hn;omega⟩;refine ⟨mkNum (Th.val t.s),⟨rfl,by rw[t2];exact f4⟩,fun outer R S=>?_⟩;show zg7 (zdJ (n+1)) (n+1) outer ⟨t::R,none⟩=_;rw[zCb (by rw[t2];exact f1) (by rw[t2];exact f2) (by rw[t2];exact f3)];exact zCp (zCo (X:=[t]) (zEq t1) S.facts.1) S
 |.op Ij k a b,0,ho,_,_,_,_=>ho.elim
 |.op Ij k a b,d+1,⟨h1,h8,hk,oa,ob⟩,n,hn,T,hT=>by
  have pa:=zC6 a;have pb:=zC6 b;simp only[Sm.ct]at hn;obtain ⟨n,rfl⟩:∃ k,n=k+5:=⟨n-5,by omega⟩;rw[tk]at hT;split at hT
  ·obtain ⟨A,B,rfl,hA,hB⟩:=List.map_eq_append_iff.1 hT;obtain ⟨o,C,rfl,ho,hC⟩:=List.map_eq_cons_iff.1 hB;obtain ⟨lp,TA,rp,rfl,l1,l2,l3⟩:=zCj hA;obtain ⟨lq,TB,rq,rfl,m1,m2,m3⟩:=zCj hC;obtain ⟨ea,ia,ra⟩:=read a d oa (n+4) (by omega) TA l2;obtain ⟨eb,ib,rb⟩:=read b d ob (n+4) (by omega) TB m2;obtain ⟨o1,o2⟩:=Prod.mk.inj ho;refine ⟨ziR o ea eb,⟨hk,.inl ⟨rfl,o2,ea,eb,rfl,ia,ib⟩⟩,fun outer R S=>?_⟩;obtain ⟨_,l4⟩:=Prod.mk.inj l1;rw[show lp::(TA++[rp])++o::(lq::(TB++[rq]))++R=lp::((TA++[rp])++o::((lq::(TB++[rq]))++R)) by simp];show zg7 (zdJ (n+4)) (n+4) outer _=_;rw[zCb (by rw[l4];decide) (by rw[l4];decide) (by rw[l4];decide)];exact zD6 (X:=lp::(TA++[rp])) (Y:=lq::(TB++[rq])) hk o1 o2 (zCi l1 l3 (ra false)) (zCi m1 m3 (rb false)) S
  ·split at hT
   ·obtain ⟨g,B,rfl,hg,hB⟩:=List.map_eq_cons_iff.1 hT;obtain ⟨A,C,rfl,hA,hC⟩:=List.map_eq_append_iff.1 hB;obtain ⟨lp,TA,rp,rfl,l1,l2,l3⟩:=zCj hA;obtain ⟨lq,TB,rq,rfl,m1,m2,m3⟩:=zCj hC;obtain ⟨ea,ia,ra⟩:=read a d oa (n+4) (by omega) TA l2;obtain ⟨eb,ib,rb⟩:=read b d ob (n+4) (by omega) TB m2;obtain ⟨g1,g2⟩:=Prod.mk.inj hg;obtain ⟨f1,f2,f3⟩:=zDk k;refine ⟨zch (zch (zbW g) ea) eb,⟨hk,.inr (.inr ⟨rfl,_,_,ea,eb,rfl,rfl,rfl,ia,ib,.inl ⟨rfl,g2⟩⟩)⟩,fun outer R S=>?_⟩;rw[show g::(lp::(TA++[rp])++(lq::(TB++[rq])))++R=g::((lp::(TA++[rp]))++((lq::(TB++[rq]))++R)) by simp];show zg7 (zdJ (n+4)) (n+4) outer _=_;rw[zCb (by rw[g2];exact f1) (by rw[g2];exact f2) (by rw[g2];exact f3)];exact zCp (zCy (X:=[g]) (k:=n+1) (zCD g1) (zCi l1 l3 (ra false)) (zCi m1 m3 (rb false)) S.facts.1) S
   ·split at hT
    ·obtain ⟨t1,T1,rfl,od,kL⟩:=List.map_eq_cons_iff.1 hT;obtain ⟨p1,T2,rfl,sN,gl⟩:=List.map_eq_cons_iff.1 kL;obtain ⟨e1,T3,rfl,IS,rK⟩:=List.map_eq_cons_iff.1 gl;obtain ⟨A,T4,rfl,hA,IJ⟩:=List.map_eq_append_iff.1 rK;obtain ⟨s1,T5,rfl,aW,IK⟩:=List.map_eq_cons_iff.1 IJ;obtain ⟨q1,T6,rfl,cF,IL⟩:=List.map_eq_cons_iff.1 IK;obtain ⟨e2,T7,rfl,IT,zX⟩:=List.map_eq_cons_iff.1 IL;obtain ⟨B,T8,rfl,hB,IM⟩:=List.map_eq_append_iff.1 zX;obtain ⟨i1,T9,rfl,GB,IN⟩:=List.map_eq_cons_iff.1 IM;obtain ⟨p2,Jw,rfl,fB,IG⟩:=List.map_eq_cons_iff.1 IN;obtain ⟨o2,Jy,rfl,jb,IH⟩:=List.map_eq_cons_iff.1 IG;obtain ⟨q2,Jz,rfl,bC,II⟩:=List.map_eq_cons_iff.1 IH;cases List.map_eq_nil_iff.1 II;obtain ⟨lp,TA,rp,rfl,l1,l2,l3⟩:=zCj hA;obtain ⟨lq,TB,rq,rfl,m1,m2,m3⟩:=zCj hB;obtain ⟨ea,ia,ra⟩:=read a d oa (n+3) (by omega) TA l2;obtain ⟨eb,ib,rb⟩:=read b d ob (n+3) (by omega) TB m2;refine ⟨mkLet false [p1,q1] [ea,eb] (ziR o2 (zbW p2) (zbW q2)),⟨hk,.inr (.inl ⟨rfl,?_,_,ea,eb,rfl,zEL fB jb bC,ia,ib⟩)⟩,fun outer R S=>?_⟩
     ·show [p1.s,q1.s]=_;rw[(Prod.mk.inj sN).2,(Prod.mk.inj cF).2]
     ·have:=zEP (n:=n+1) hk od sN IS aW cF IT GB fB jb bC (fun o R S=>zDa l1 l3 (ra false) o S) (fun o R S=>zDa m1 m3 (rb false) o S) outer S;simpa using this
    ·obtain ⟨t1,T1,rfl,od,kL⟩:=List.map_eq_cons_iff.1 hT;obtain ⟨b1,T2,rfl,aA,gl⟩:=List.map_eq_cons_iff.1 kL;obtain ⟨p1,T3,rfl,sN,rK⟩:=List.map_eq_cons_iff.1 gl;obtain ⟨q1,T4,rfl,cF,IJ⟩:=List.map_eq_cons_iff.1 rK;obtain ⟨d1,T5,rfl,IQ,IK⟩:=List.map_eq_cons_iff.1 IJ;obtain ⟨p2,T6,rfl,fB,IL⟩:=List.map_eq_cons_iff.1 IK;obtain ⟨o2,T7,rfl,jb,zX⟩:=List.map_eq_cons_iff.1 IL;obtain ⟨q2,T8,rfl,bC,IM⟩:=List.map_eq_cons_iff.1 zX;obtain ⟨t2,T9,rfl,p9,IN⟩:=List.map_eq_cons_iff.1 IM;obtain ⟨A,C,rfl,hA,hC⟩:=List.map_eq_append_iff.1 IN;obtain ⟨lp,TA,rp,rfl,l1,l2,l3⟩:=zCj hA;obtain ⟨lq,TB,rq,rfl,m1,m2,m3⟩:=zCj hC;obtain ⟨ea,ia,ra⟩:=read a d oa (n+4) (by omega) TA l2;obtain ⟨eb,ib,rb⟩:=read b d ob (n+4) (by omega) TB m2;have hf:Atm (zdJ (n+4)) (t1::([b1,p1,q1,d1,p2,o2,q2]++[t2])) (mkFun [p1,q1] (ziR o2 (zbW p2) (zbW q2))):=zCi od p9 (fun R S=>zEO (n:=n) hk aA sN cF IQ fB jb bC false S);refine ⟨zch (zch (mkFun [p1,q1] (ziR o2 (zbW p2) (zbW q2))) ea) eb,⟨hk,.inr (.inr ⟨rfl,_,_,ea,eb,rfl,rfl,rfl,ia,ib,.inr ⟨rfl,?_,_,rfl,zEL fB jb bC⟩⟩)⟩,fun outer R S=>?_⟩
     ·show [p1.s,q1.s]=_;rw[(Prod.mk.inj sN).2,(Prod.mk.inj cF).2]
     ·obtain ⟨_,l4⟩:=Prod.mk.inj od;have:=zCy (k:=n+1) (R:=R) hf (zCi l1 l3 (ra false)) (zCi m1 m3 (rb false)) S.facts.1;show zg7 (zdJ (n+4)) (n+4) outer _=_;have e0:t1::b1::p1::q1::d1::p2::o2::q2::t2::(lp::(TA++[rp])++(lq::(TB++[rq])))++R=t1::([b1,p1,q1,d1,p2,o2,q2]++[t2])++((lp::(TA++[rp]))++((lq::(TB++[rq]))++R)):=by simp
      rw[e0];show zg7 (zdJ (n+4)) (n+4) outer ⟨t1::(([b1,p1,q1,d1,p2,o2,q2]++[t2])++((lp::(TA++[rp]))++((lq::(TB++[rq]))++R))),none⟩=_;rw[zCb (by rw[l4];decide) (by rw[l4];decide) (by rw[l4];decide)];exact zCp this S
end Sg
end Go.Proofs.YtgahgkddaljmkaaGreatDoor
namespace Go.Proofs.YtgahgkddaljmkaaGreatDoor
open Tryz
namespace Sg
open Th
theorem zCz:∀ (n:Nat) (t:List UInt8) (p q:Nat),(zdN n t p).map sh=(zdN n t q).map sh
 |0,_,_,_=>rfl
 |n+1,t,p,q=>by
  rw[zdN,zdN];simp only[zza,sh];split
  ·rfl
  ·rw[zCz n]
def lx (n:Nat) (t:List UInt8):List (Nat × List UInt8):=(zdN n t 0).map sh
theorem lx_of(n:Nat)(t:List UInt8)(p:Nat):(zdN n t p).map sh=lx n t:=zCz n t p 0
theorem zEX(n:Nat){ds rest:List UInt8}{e:UInt8}(he:zba e=false)(h1:ds≠[])(h2:∀ c∈ds,zba c=true)(h3:ds.length<=9):lx (n+1) (ds++e::rest)=(3,ds)::lx n (e::rest):=by
 cases ds with
 |nil=>exact absurd rfl h1
 |cons c ds=>
  have hc:=h2 c (by simp);have hb:zda c=false:=by
   unfold zba at hc;unfold zda;simp only[zzv,decide_eq_true_eq]at hc;simp only[Bool.or_eq_false_iff,beq_eq_false_iff_ne,ne_eq];constructor <;> intro e <;> subst e <;> simp at hc
  have hl:isLet c=false:=by
   unfold zba at hc;unfold isLet;simp only[zzv,decide_eq_true_eq]at hc;rw[Bool.and_eq_false_iff];exact .inl (by simp;omega)
  have ng:((c::ds)++e::rest).takeWhile zba=c::ds:=by
   rw[List.takeWhile_append_of_pos h2,List.takeWhile_cons_of_neg (by rw[he];simp),zzS]
  have cV:((c::ds)++e::rest).takeWhile zda=[]:=by
   rw[zy7,List.takeWhile_cons_of_neg (by rw[hb];simp)]
  have hf:first ((c::ds)++e::rest)=(3,c::ds):=by
   have:first ((c::ds)++e::rest)=if isLet c then word (((c::ds)++e::rest).takeWhile zlx) else if zba c then zo7 (((c::ds)++e::rest).takeWhile zba) else if zbH ((c::ds)++e::rest)=0 then (1,[]) else (4,((c::ds)++e::rest).take (zbH ((c::ds)++e::rest))):=rfl
   rw[this,hl,hc,ng];simp only[zzw,if_false,if_true];unfold zo7;rw[if_neg (by omega)]
  unfold lx;rw[zdN];rw[cV,zzm,zzY,hf,if_neg (by omega),List.drop_left];simp only[zza,sh];rw[zCz _ _ _ 0]
variable {n:Nat}
theorem zB0{a:List UInt8}{l:List (Nat × List UInt8)}{u:List UInt8}{q:Nat}(T:List Tok)(h:zdN n (a++u) 0=T++zdN q u a.length)(ht:T.map sh=l):lx n (a++u)=l++lx q u:=by
 unfold lx;rw[h,zz3,ht,zCz q u _ 0]
variable {v:Nat}
theorem zC7(h:v<40):zrn 2 v≠[]/\(∀ c∈zrn 2 v,zba c=true)/\(zrn 2 v).length<=9:=by
 revert v
 decide +kernel
theorem zDj(n:Nat)(u:List UInt8):lx (n+1) (40::u)=(4,[40])::lx n u:=zB0 (a:=[40]) [⟨4,[40],0⟩] (by kernel_rfl) rfl
theorem zCX(n:Nat)(u:List UInt8):lx (n+1) (41::u)=(4,[41])::lx n u:=zB0 (a:=[41]) [⟨4,[41],0⟩] (by kernel_rfl) rfl
theorem zCx(n:Nat)(u:List UInt8):lx (n+1) (32::u)=lx (n+1) u:=by
 unfold lx;rw[zdN,zdN];have hb:(32::u:List UInt8).takeWhile zda=32::u.takeWhile zda:=List.takeWhile_cons_of_pos (by decide);rw[hb];simp only[zy8,List.drop_succ_cons,zza,sh];split
 ·rfl
 ·rw[zCz _ _ _ (0+(u.takeWhile zda).length+(first (u.drop (u.takeWhile zda).length)).2.length)]
variable {j:Nat}
theorem zCY(n:Nat)(hj:j<4)(u:List UInt8):lx (n+1) (Sm.sign j++32::u)=(4,Sm.sign j)::lx n (32::u):=by
 obtain rfl|rfl|rfl|rfl:j=0\/j=1\/j=2\/j=3:=by omega
 ·exact zB0 (a:=[43]) [⟨4,[43],0⟩] (by kernel_rfl) rfl
 ·exact zB0 (a:=[45]) [⟨4,[45],0⟩] (by kernel_rfl) rfl
 ·exact zB0 (a:=[42]) [⟨4,[42],0⟩] (by kernel_rfl) rfl
 ·exact zB0 (a:=[47]) [⟨4,[47],0⟩] (by kernel_rfl) rfl
theorem zEx(n:Nat)(hj:j<4)(u:List UInt8):lx (n+1) (Sm.name j++32::u)=(2,Sm.name j)::lx n (32::u):=by
 obtain rfl|rfl|rfl|rfl:j=0\/j=1\/j=2\/j=3:=by omega
 ·exact zB0 (a:=[97,100,100]) [⟨2,[97,100,100],0⟩] (by kernel_rfl) rfl
 ·exact zB0 (a:=[115,117,98]) [⟨2,[115,117,98],0⟩] (by kernel_rfl) rfl
 ·exact zB0 (a:=[109,117,108]) [⟨2,[109,117,108],0⟩] (by kernel_rfl) rfl
 ·exact zB0 (a:=[100,105,118]) [⟨2,[100,105,118],0⟩] (by kernel_rfl) rfl
theorem zEW(n:Nat)(u:List UInt8):lx (n+4) (108::101::116::32::112::32::61::32::40::u)=(4,zqP)::(2,[112])::(4,[61])::(4,[40])::lx n u:=zB0 (a:=[108,101,116,32,112,32,61,32,40]) [⟨4,zqP,0⟩,⟨2,[112],4⟩,⟨4,[61],6⟩,⟨4,[40],8⟩] (by kernel_rfl) rfl
theorem zEU(n:Nat)(u:List UInt8):lx (n+5) (41::59::32::113::32::61::32::40::u)=(4,[41])::(4,[59])::(2,[113])::(4,[61])::(4,[40])::lx n u:=zB0 (a:=[41,59,32,113,32,61,32,40]) [⟨4,[41],0⟩,⟨4,[59],1⟩,⟨2,[113],3⟩,⟨4,[61],5⟩,⟨4,[40],7⟩] (by kernel_rfl) rfl
theorem lx_in(n:Nat)(u:List UInt8):lx (n+3) (41::32::105::110::32::112::32::u)=(4,[41])::(4,sIn)::(2,[112])::lx n (32::u):=zB0 (a:=[41,32,105,110,32,112]) [⟨4,[41],0⟩,⟨4,sIn,2⟩,⟨2,[112],5⟩] (by kernel_rfl) rfl
theorem zEV(n:Nat)(u:List UInt8):lx (n+6) (40::92::112::32::113::46::32::112::32::u)=(4,[40])::(4,[92])::(2,[112])::(2,[113])::(4,[46])::(2,[112])::lx n (32::u):=zB0 (a:=[40,92,112,32,113,46,32,112]) [⟨4,[40],0⟩,⟨4,[92],1⟩,⟨2,[112],2⟩,⟨2,[113],4⟩,⟨4,[46],5⟩,⟨2,[112],7⟩] (by kernel_rfl) rfl
theorem lx_q(n:Nat){e:UInt8}(he:e=41\/e=59)(u:List UInt8):lx (n+1) (113::e::u)=(2,[113])::lx n (e::u):=by
 rcases he with rfl|rfl
 ·exact zB0 (a:=[113]) [⟨2,[113],0⟩] (by kernel_rfl) rfl
 ·exact zB0 (a:=[113]) [⟨2,[113],0⟩] (by kernel_rfl) rfl
theorem lex:∀ (x:Sm) (d:Nat),Sm.Ok d x->∀ (n:Nat) (e:UInt8) (u:List UInt8),e=41\/e=59->lx (n+(tk x).length) (x.text++e::u)=tk x++lx n (e::u)
 |.num v,d,ho,n,e,u,he=>by
  have hv:v<40:=by cases d <;> exact ho
  obtain ⟨h1,h2,h3⟩:=zC7 hv;exact zEX n (by rcases he with rfl|rfl <;> rfl) h1 h2 h3
 |.op Ij k a b,0,ho,_,_,_,_=>ho.elim
 |.op Ij k a b,d+1,⟨h1,h8,hk,oa,ob⟩,n,e,u,he=>by
  have IA:=fun m (r:List UInt8)=>lex a d oa m 41 r (.inl rfl)
  have IB:=fun m (r:List UInt8)=>lex b d ob m 41 r (.inl rfl)
  rw[tk,Sm.text];split
  ·have et:Sm.par a.text++[32]++Sm.sign k++[32]++Sm.par b.text++e::u=40::(a.text++41::32::(Sm.sign k++32::40::(b.text++41::e::u))):=by simp[Sm.par]
   have el:n+(tkP (tk a)++(4,Sm.sign k)::tkP (tk b)).length=n+1+(tk b).length+1+1+1+(tk a).length+1:=by simp;omega
   rw[et,el,zDj,IA,zCX,zCx,zCY _ hk,zCx,zDj,IB,zCX];simp
  ·split
   ·have et:Sm.name k++[32]++Sm.par a.text++[32]++Sm.par b.text++e::u=Sm.name k++32::40::(a.text++41::32::40::(b.text++41::e::u)):=by simp[Sm.par]
    have el:n+((2,Sm.name k)::(tkP (tk a)++tkP (tk b))).length=n+1+(tk b).length+1+1+(tk a).length+1+1:=by simp;omega
    rw[et,el,zEx _ hk,zCx,zDj,IA,zCX,zCx,zDj,IB,zCX];simp
   ·split
    ·have et:[108,101,116,32,112,32,61,32]++Sm.par a.text++[59,32,113,32,61,32]++Sm.par b.text++[32,105,110,32,112,32]++Sm.sign k++[32,113]++e::u=108::101::116::32::112::32::61::32::40::(a.text++41::59::32::113::32::61::32::40::(b.text++41::32::105::110::32::112::32::(Sm.sign k++32::113::e::u))):=by simp[Sm.par]
     have el:n+((4,zqP)::(2,[112])::(4,[61])::(tkP (tk a)++(4,[59])::(2,[113])::(4,[61])::(tkP (tk b)++[(4,sIn),(2,[112]),(4,Sm.sign k),(2,[113])]))).length=n+1+1+3+(tk b).length+5+(tk a).length+4:=by simp;omega
     rw[et,el,zEW,IA,zEU,IB,lx_in,zCx,zCY _ hk,zCx,lx_q _ he];simp
    ·have et:[40,92,112,32,113,46,32,112,32]++Sm.sign k++[32,113,41,32]++Sm.par a.text++[32]++Sm.par b.text++e::u=40::92::112::32::113::46::32::112::32::(Sm.sign k++32::113::41::32::40::(a.text++41::32::40::(b.text++41::e::u))):=by simp[Sm.par]
     have el:n+((4,[40])::(4,[92])::(2,[112])::(2,[113])::(4,[46])::(2,[112])::(4,Sm.sign k)::(2,[113])::(4,[41])::(tkP (tk a)++tkP (tk b))).length=n+1+(tk b).length+1+1+(tk a).length+1+1+1+1+6:=by simp;omega
     rw[et,el,zEV,zCx,zCY _ hk,zCx,lx_q _ (.inl rfl),zCX,zCx,zDj,IA,zCX,zCx,zDj,IB,zCX];simp
end Sg
end Go.Proofs.YtgahgkddaljmkaaGreatDoor
namespace Go.Proofs.YtgahgkddaljmkaaGreatDoor
open Tryz
namespace Ab
namespace Sg
open Cp
def zDp (cd:List (Nat × List Ins)) (s:Nat) (bl:List (Nat × List Ins)):Prop:=∀ i,i<bl.length->cd[s+i]?=bl[i]?
variable {cd:List (Nat × List Ins)}{s:Nat}
theorem zDp.left{a b:List (Nat × List Ins)}(h:zDp cd s (a++b)):zDp cd s a:=fun i hi=>by
 rw[h i (by simp;omega),zzc hi]
theorem zDp.right{a b:List (Nat × List Ins)}(h:zDp cd s (a++b)):zDp cd (s+a.length) b:=fun i hi=>by
 rw[Nat.add_assoc,h (a.length+i) (by simp;omega),zy3 (by omega),Nat.add_sub_cancel_left]
theorem zDp.one{x:Nat × List Ins}(h:zDp cd s [x]):cd[s]?=some x:=h 0 (by simp)
def Good (cd:List (Nat × List Ins)):Prop:=cd.length<1000000000/\∀ k,k<4->∃ c d,cd[k]?=some (2,[.push 0,.wait c,.push 1,.zci 3,.enter])/\cd[c]?=some (2,[.zbX,.push 1,.wait d,.push 0,.zci 3,.enter])/\cd[d]?=some (2,[.comp ⟨(Sm.sign k).toArray⟩,.enter])
def FnA (fns:List Nat):Prop:=∀ k,k<4->fns[k]?=some k
def zDq (hf:Nat) (cd:List (Nat × List Ins)) (Q:Except Nat Ma->Prop) (fns:List Nat) (x:Sm) (c:Nat) (is:List Ins) (m below:Nat):Prop:=
 ∀ (h:List Nd) (S fr ws:List Wd) (f W F:Nat) (nx:Int),fr.length+ws.length=m->ws.length=below->FO h->Res hf Q h (S++fr++ws) fns f (W+c) (F+c)->zD9 hf cd Q x.val h.length h (S++ws) fns W F->Ex hf cd Q is ⟨h,S++fr++ws,fns,f,nx,S.length⟩
def Wrk (x:Sm) (c:Nat) (wk:Bs->Bs) (below m:Nat):Prop:=∀ (b:Bs),b.zac=List.replicate m []->∃ is bl,(wk b).code=b.code++is/\(wk b).blocks=b.blocks++bl/\bl.length+1<=c /\
 ∀ hf cd Q fns,Good cd->FnA fns->zDp cd b.blocks.length bl->zDq hf cd Q fns x c is m below
def Hld (N:Nat) (fnl:List Nm) (n:Nat) (x:Sm) (e:Th.Ex):Prop:=∀ (b:Bs) (m:Nat),b.zac=List.replicate m []->∃ i bl,zaI (work (free (N+1)) fnl n) (free (N+1)) fnl b e=⟨b.blocks++bl,b.zac++[[]],b.code++[i]⟩/\bl.length<=30*x.ct /\
 ∀ hf cd Q fns,Good cd->FnA fns->zDp cd b.blocks.length bl->∃ nd,HdN hf cd Q fns nd x/\∀ (h:List Nd) (st:List Wd) (f W F:Nat) (nx bl:Int) (is:List Ins),Res hf Q h st fns f (W+3) (F+1)->(∀ f,Res hf Q (h++[nd]) (st++[.ad h.length]) fns f W F->Ex hf cd Q is ⟨h++[nd],st++[.ad h.length],fns,f,nx,bl⟩)->Ex hf cd Q (i::is) ⟨h,st,fns,f,nx,bl⟩
variable {x:Sm}{below m:Nat}
theorem Wrk.le{c c':Nat}{wk:Bs->Bs}(h:Wrk x c wk below m)(hc:c<=c'):Wrk x c' wk below m:=fun b hb=>by
 obtain ⟨is,bl,h1,h2,h0,h3⟩:=h b hb;exact ⟨is,bl,h1,h2,by omega,fun hf cd Q fns g1 g2 g3 h S fr ws f W F nx m1 m2 o R K=>h3 hf cd Q fns g1 g2 g3 h S fr ws f W F nx m1 m2 o (R.less (by omega) (by omega)) K⟩
variable {Ij k:Nat}{a b:Sm}
theorem zEu{e:Th.Ex}(h:Is (.op Ij k a b) e):e.kind=5\/e.kind=6\/e.kind=7:=by
 rcases h.2 with h|h|h
 ·exact .inr (.inl h.1)
 ·exact .inr (.inr h.1)
 ·exact .inl h.1
variable {N n:Nat} {fnl:List Nm}
theorem zCH{e:Th.Ex}(hx:Is x e)(hw:Wrk x (30*x.ct) (work (free (N+1)) fnl n e 0) 0 0):Hld N fnl n x e:=fun b m hb=>by
 cases x with
 |num v=>
  obtain ⟨h1,h2⟩:=hx;refine ⟨.num v,[],?_,by simp,fun hf cd Q fns _ _ _=>⟨.num v,.inl ⟨v,rfl,rfl⟩,fun h st f W F nx bl is R k=>zEk R k⟩⟩;unfold zaI;rw[if_neg (by omega),if_pos h1,h2];simp[Bs.push]
 |op Ij k p q=>
  have hk:=zEu hx;obtain ⟨is,bl,w1,w2,w0,w3⟩:=hw ⟨b.blocks,[],[]⟩ rfl;simp only[zzb]at w1;refine ⟨.close (b.blocks++bl).length 0,bl++[(0,is)],?_,by simpa using w0,fun hf cd Q fns g1 g2 g3=>⟨.clo (b.blocks++bl).length [],.inr ⟨_,is,rfl,?_,fun h st f W F nx o R K=>?_⟩,fun h st f W F nx JB JJ R k=>?_⟩⟩
  ·unfold zaI zal Bs.zhD;rw[if_neg (by omega),if_neg (by omega),if_neg (by omega),hb,zCs (zCd hx)];simp only[List.reverse_nil,zzm];rw[if_neg (by omega),if_neg (by omega)];simp only[w1,w2,Bs.zak,List.reverse_nil,List.foldl_nil,Bs.drop,Bs.push];simp
  ·have:=g3.right.one
   rwa [zyT]
  ·have:=w3 hf cd Q fns g1 g2 g3.left h st [] [] f W F nx rfl rfl o (by simpa using R) (by simpa using K);simpa using this
  ·have:=g3.right.one;have hl:=(zyL.1 this).1;exact zC8 (by have:=g1.1;rw[zyT];omega) (R.less (by omega) (by omega)) k
variable {h:List Nd}
theorem zD9.le{hf:Nat}{Q:Except Nat Ma->Prop}{v:Option Int}{L:Nat}{h1:List Nd}{st:List Wd}{fns:List Nat}{W F:Nat}(K:zD9 hf cd Q v L h st fns W F)(hl:h.length<=h1.length)(hs:∀ i,i<L->h1[i]?=h[i]?):zD9 hf cd Q v L h1 st fns W F:=
 ⟨K.1,fun n hn h' a f nx bl p1 p2 p3 R=>K.2 n hn h' a f nx bl (zyR hl p1) (fun i hi=>by rw[p2 i hi,hs i hi]) p3 R⟩
theorem FO.app(o:FO h)(nd:Nd):FO (h++[nd]):=fun k hk=>by
 have:=o.len;rw[zzc (by omega)];exact o k hk
theorem zCN(T l:List Wd)(i:Nat):(T++l)[((T.length:Int)).toNat+i]?=l[i]?:=by rw[zy2,zy3 (by omega),Nat.add_sub_cancel_left]
variable {j:Nat}
theorem zEa{hf:Nat}{Q:Except Nat Ma->Prop}{fns:List Nat}{S fr ws:List Wd}{f W F L p q fa fb c d:Nat}{nx:Int}{np nq:Nd}{y:Sm}(hj:j<4)(hb:cd[fb]?=some (2,[.push 0,.wait c,.push 1,.zci 3,.enter]))(hc:cd[c]?=some (2,[.zbX,.push 1,.wait d,.push 0,.zci 3,.enter]))(hd:cd[d]?=some (2,[.comp ⟨(Sm.sign j).toArray⟩,.enter]))(aN:cd.length<1000000000)(h4:4<=L)(hp:L<=p)(hq:L<=q)(Iu:p≠q)(IU:h[p]?=some np)(hx:HdN hf cd Q fns np x)(IC:h[q]?=some nq)(hy:HdN hf cd Q fns nq y)(oV:h[fa]?=some (.clo fb []))(o:FO h)(R:Res hf Q h (S++fr++(ws++[.ad q,.ad p,.mk 2 2,.ad fa])) fns f (W+30*x.ct+30*y.ct+13) (F+30*x.ct+30*y.ct+16))(K:zD9 hf cd Q (Sm.op Ij j x y).val L h (S++ws) fns W F):Ex hf cd Q [.zci (ws.length+4),.enter] ⟨h,S++fr++(ws++[.ad q,.ad p,.mk 2 2,.ad fa]),fns,f,nx,S.length⟩:=by
 have IP:c<cd.length:=(zyL.1 hc).1;refine zCk (F:=F+30*x.ct+30*y.ct+15) (by simp) R fun f R=>?_
 rw[show S++(ws++[Wd.ad q,.ad p,.mk 2 2,.ad fa])=(S++ws++[.ad q,.ad p,.mk 2 2])++[.ad fa] by simp]at R ⊢;refine zDh (F:=F+30*x.ct+30*y.ct+14) oV (zEg hb) R fun f R=>?_
 rw[show (S++ws++[Wd.ad q,.ad p,.mk 2 2])++[.ad fa]=S++ws++[.ad q,.ad p,.mk 2 2,.ad fa] by simp]at R ⊢;refine gv_fn oV (zEg hb) (R.less (by omega) (zyN _)) (zB4 hb ?_);have aA:((S++ws++[Wd.ad q,.ad p]).length:Int)-(2:Nat)=((S++ws).length:Int):=by simp only[zyT,zy8,zzm];omega
 rw[aA];have R1:Res hf Q h (S++ws++[.ad q,.ad p]) fns f (W+30*x.ct+30*y.ct+15) (F+30*x.ct+30*y.ct+14):=R.stack (fun c hc=>by simp at hc ⊢;rcases hc with hc|hc|hc|hc <;> simp[hc]) (by simp;omega);refine zCn (x:=.ad q) (W:=W+30*x.ct+30*y.ct+14) (F:=F+30*x.ct+30*y.ct+13) (by omega) (by rw[zCN];rfl) R1 fun f R=>?_
 refine zCw (W:=W+30*x.ct+30*y.ct+13) (F:=F+30*x.ct+30*y.ct+12) (by omega) R fun f R=>?_
 refine zCn (x:=.ad p) (W:=W+30*x.ct+30*y.ct+12) (F:=F+30*x.ct+30*y.ct+11) (by omega) (by rw[zzk,zzk,zCN];rfl) R fun f R=>?_
 rw[show S++ws++[Wd.ad q,.ad p]++[.ad q]++[.mk 1 c]++[.ad p]=S++ws++[.ad q,.ad p]++[.ad q,.mk 1 c,.ad p] by simp]at R ⊢;refine zCk (F:=F+30*x.ct+30*y.ct+10) rfl R fun f R=>?_
 exact two hj hc hd aN h4 hp hq Iu IU hx IC hy o (R.less (by omega) (by omega)) K
variable {N n:Nat} {fnl:List Nm}
abbrev dB (k:Nat):Nat × List Ins:=(2,[.comp ⟨(Sm.sign k).toArray⟩,.enter])
abbrev rB (d:Nat) (ir:List Ins):Nat × List Ins:=(1,.zbX::.push 0::.wait d::ir)
variable {v:Nat}
theorem zEe{e:Th.Ex}(hx:Is (.num v) e):Wrk (.num v) 30 (work (free (N+1)) fnl (n+1) e below) below m:=fun b hb=>by
 obtain ⟨h1,h2⟩:=hx;refine ⟨[.num v,.zci (below+1),.enter],[],?_,?_,by simp,fun hf cd Q fns _ _ _ h S fr ws f W F nx m1 m2 o R K=>?_⟩
 ·rw[work,if_neg (by omega),if_neg (by omega),if_neg (by omega),if_neg (by omega)];unfold zaI;rw[if_neg (by omega),if_pos h1,h2];simp[Bs.ends,Bs.write,Bs.push]
 ·rw[work,if_neg (by omega),if_neg (by omega),if_neg (by omega),if_neg (by omega)];unfold zaI;rw[if_neg (by omega),if_pos h1];simp[Bs.ends,Bs.write,Bs.push]
 ·refine zEk (W:=W) (F:=F+2) (R.less (by omega) (by omega)) fun f R=>?_
  rw[zzk (S++fr)]at R ⊢;refine zCk (F:=F+1) (by simp[m2]) R fun f R=>?_
  rw[<-zzk]at R ⊢;have gU:(h++[Nd.num (v:Int)])[h.length]?=some (.num v):=by simp
  exact zCq gU R fun f R=>K.2 v rfl _ _ _ _ _ (by simp) (fun i hi=>zzc hi) gU R
variable {l r:Th.Ex}
theorem zEB{e:Th.Ex}(hk:k<4)(h6:e.kind=6)(ht:e.tok.s=Sm.sign k)(dQ:e.kids=[l,r])(hr:Is b r)(wl:Wrk a (30*a.ct) (work (free (N+1)) fnl n l (below+1)) (below+1) (m+1))(wr:Wrk b (30*b.ct) (work (free (N+1)) fnl n r 2) 2 3):Wrk (.op Ij k a b) (30*(a.ct+b.ct+1)) (work (free (N+1)) fnl (n+1) e below) below m:=fun b0 hb=>by
 have hh:zai b0.zac (free (N+1) r)=[]:=by rw[hb];exact zCs (zCd hr)
 rw[zh3 fnl n below b0 h6 dQ,hh];obtain ⟨ir,br,r1,r2,r0,r3⟩:=wr (zbo b0 [] e) rfl;have hB:(Bs.zak fnl ⟨(work (free (N+1)) fnl n r 2 (zbo b0 [] e)).blocks++[(([]:List Nm).length+1,(work (free (N+1)) fnl n r 2 (zbo b0 [] e)).code)],b0.zac,b0.code⟩ []).push (.wait (work (free (N+1)) fnl n r 2 (zbo b0 [] e)).blocks.length) =
   ⟨b0.blocks++([dB k]++br++[rB b0.blocks.length ir]),List.replicate (m+1) [],b0.code++[.wait (b0.blocks++([dB k]++br)).length]⟩:=by
  rw[r1,r2,List.replicate_succ',<-hb];simp[Bs.zak,Bs.push,zbo,ht]
 rw[hB];obtain ⟨il,Jb,l1,l2,l0,l3⟩:=wl ⟨b0.blocks++([dB k]++br++[rB b0.blocks.length ir]),List.replicate (m+1) [],b0.code++[.wait (b0.blocks++([dB k]++br)).length]⟩ rfl;refine ⟨.wait (b0.blocks++([dB k]++br)).length::il,([dB k]++br++[rB b0.blocks.length ir])++Jb,?_,?_,by simp;omega,fun hf cd Q fns g1 g2 g3 h S fr ws f W F nx m1 m2 o R K=>?_⟩
 ·refine l1.trans ?_;simp
 ·refine l2.trans ?_;simp
 ·have hd:=g3.left.left.left.one;have AJ:=g3.left.right.one;have gi:=g3.right;rw[<-zyT]at AJ gi;have Jn:=g3.left.left.right;have rY:=(zyL.1 hd).1;have bd:=(zyL.1 AJ).1;have hg:=g1.1;rw[zEp]at K;generalize (b0.blocks++([dB k]++br)).length=c at *;refine zCw (W:=W+30*b.ct+20+30*a.ct) (F:=F+30*b.ct+20+30*a.ct) (by omega) (R.less (by omega) (by omega)) fun f R=>?_
  rw[zzk (S++fr)]at R ⊢;refine l3 hf cd Q fns g1 g2 gi h S fr (ws++[.mk 1 c]) f _ _ nx (by simp;omega) (by simp[m2]) o R ⟨fun e=>K.1 (by rw[e]),fun n1 v1 h1 a1 f nx bl p1 p2 p3 R=>?_⟩;rw[show S++(ws++[Wd.mk 1 c])++[.ad a1]=(S++ws)++[.mk 1 c,.ad a1] by simp]at R ⊢;generalize S++ws=T at *;refine zCG (by omega) (zB4 AJ ?_);have aA:((T++[Wd.ad a1]).length:Int)-(1:Nat)=(T.length:Int):=by simp only[zyT,zy8,zzm];omega
  rw[aA];have R1:Res hf Q h1 (T++[.ad a1]) fns f (W+30*b.ct+20) (F+30*b.ct+20):=R.stack (fun c hc=>by simp at hc ⊢;rcases hc with hc|hc <;> simp[hc]) (by simp);refine zDu (F:=F+30*b.ct+19) p3 R1 fun f R=>?_
  refine zCn (x:=.ad a1) (W:=W+30*b.ct+19) (F:=F+30*b.ct+18) (by omega) (by rw[zCN];rfl) R fun f R=>?_
  refine zCw (W:=W+30*b.ct+18) (F:=F+30*b.ct+17) (by omega) R fun f R=>?_
  rw[show T++[Wd.ad a1]++[.ad a1]++[.mk 1 b0.blocks.length]=T++[.ad a1]++[.ad a1,.mk 1 b0.blocks.length] by simp]at R ⊢;have o1:FO h1:=fun j hj=>by rw[p2 j (by have:=o.len;omega)];exact o j hj
  refine r3 hf cd Q fns g1 g2 (by rw[show (zbo b0 [] e).blocks.length=b0.blocks.length+1 by simp[zbo]];exact Jn) h1 T [.ad a1] [.ad a1,.mk 1 b0.blocks.length] f (W+10) (F+10) _ rfl rfl o1 (R.less (by omega) (by omega)) ⟨fun e=>K.1 (by rw[v1,e]),fun n2 v2 h2 a2 f nx bl q1 q2 q3 R=>?_⟩;rw[show T++[Wd.ad a1,.mk 1 b0.blocks.length]++[.ad a2]=(T++[.ad a1])++[.mk 1 b0.blocks.length,.ad a2] by simp]at R ⊢;refine zCG (by omega) (zB4 hd ?_);have R2:Res hf Q h2 (T++[.ad a1]++[.ad a2]) fns f (W+10) (F+10):=R.stack (fun c hc=>by simp at hc ⊢;rcases hc with hc|hc|hc <;> simp[hc]) (by simp);rw[show T++[Wd.ad a1]++[.ad a2]=T++[.ad a1,.ad a2] by simp]at R2 ⊢;rw[v1,v2]at K;have mQ:h2[a1]?=some (.num n1):=by rw[q2 a1 (zyL.1 p3).1];exact p3
  refine zDt (W:=W+9) (F:=F+9) hk mQ q3 R2 K.1 fun n hn f R=>?_
  have gU:(h2++[Nd.num n])[h2.length]?=some (.num n):=by simp
  refine zCq (W:=W) (F:=F) gU (R.less (by omega) (by omega)) fun f R=>K.2 n hn _ _ _ _ _ (by simp;omega) (fun i hi=>?_) gU R
  rw[zzc (by omega),q2 i (by omega),p2 i hi]
variable {N n:Nat} {fnl:List Nm}
theorem zED(s:List Nm):za9 (s++[[112],[113]]) [112]=some s.length/\za9 (s++[[112],[113]]) [113]=some (s.length+1):=by
 have e1:(s++[[112],[113]])[s.length+1]?=some [113]:=by simp
 have e0:(s++[[112],[113]])[s.length]?=some [112]:=by simp
 have hl:(s++[[112],[113]]).length=s.length+1+1:=by simp
 unfold za9;rw[hl];refine ⟨?_,?_⟩
 ·rw[zcq,e1,if_neg (by decide),zcq,e0,if_pos rfl]
 ·rw[zcq,e1,if_pos rfl]
theorem zDl(s:List Nm):Go.splice (s++[[]]++[[]]) s.length [[112],[113]]=s++[[112],[113]]:=by
 unfold Go.splice;simp
abbrev cB (d:Nat):Nat × List Ins:=(2,[.zbX,.push 1,.wait d,.push 0,.zci 3,.enter])
theorem zDc{e d:Th.Ex}(hk:k<4)(h7:e.kind=7)(hn:Th.texts e.names=[[112],[113]])(dQ:e.kids=[d,l,r])(B:Bd k d)(hl:Hld N fnl (n+2) a l)(hr:Hld N fnl (n+2) b r):Wrk (.op Ij k a b) (30*a.ct+30*b.ct+28) (zkD (work (free (N+1)) fnl (n+2)) (free (N+1)) fnl e) 0 m:=fun b0 hb=>by
 obtain ⟨i1,b1,w1,w0,w2⟩:=hl b0 m hb;obtain ⟨i2,b2,v1,v0,v2⟩:=hr ⟨b0.blocks++b1,b0.zac++[[]],b0.code++[i1]⟩ (m+1) (by simp[hb,List.replicate_succ']);have hm:b0.zac.length=m:=by simp[hb]
 obtain ⟨s1,s2⟩:=zED b0.zac;rw[zei dQ];have hin:zdq (work (free (N+1)) fnl (n+2)) (free (N+1)) fnl e [l,r] b0=⟨b0.blocks++b1++b2,b0.zac++[[112],[113]],b0.code++[i1]++[i2]⟩:=by
  unfold zdq;rw[if_neg (by omega)];simp only[zz2,List.foldl_nil];rw[w1,v1,hn];simp only;rw[zDl]
 rw[hin];obtain ⟨c1,c2⟩:=zCP (N:=N) (n:=n) (fns:=fnl) (b:=⟨b0.blocks++b1++b2,b0.zac++[[112],[113]],b0.code++[i1]++[i2]⟩) B s1 s2;refine ⟨i1::i2::[.push (b0.zac.length+1),.wait ((b0.blocks++b1++b2).length+1),.push b0.zac.length,.zci 3,.enter],b1++b2++([dB k]++[cB (b0.blocks++b1++b2).length]),?_,?_,by simp;omega,fun hf cd Q fns g1 g2 g3 h S fr ws f W F nx m1 m2 o R K=>?_⟩
 ·rw[c1];simp
 ·rw[c2];simp
 ·have ew:ws=[]:=zzn.1 m2;subst ew;obtain ⟨n1,x1,y1⟩:=w2 hf cd Q fns g1 g2 g3.left.left;obtain ⟨n2,x2,y2⟩:=v2 hf cd Q fns g1 g2 (by have:=g3.left.right;rwa [<-zyT]at this);have gd:=g3.right.left.one;have gc:=g3.right.right.one;have el:b0.blocks.length+(b1++b2).length=(b0.blocks++b1++b2).length:=by simp
  rw[el]at gd gc;have aN:=(zyL.1 gc).1;have hg:=g1.1;simp only[zzS]at R K ⊢;rw[hm];have ak:fr.length=m:=by simpa using m1
  generalize (b0.blocks++b1++b2).length=db at *;refine y1 h (S++fr) f (W+30*a.ct+30*b.ct+25) (F+30*a.ct+30*b.ct+25) nx S.length _ (R.less (by omega) (by omega)) fun f R=>?_
  refine y2 (h++[n1]) (S++fr++[.ad h.length]) f (W+30*a.ct+30*b.ct+20) (F+30*a.ct+30*b.ct+20) nx S.length _ (R.less (by omega) (by omega)) fun f R=>?_
  have hp:(h++[n1]++[n2])[h.length]?=some n1:=by simp
  have hq:(h++[n1]++[n2])[(h++[n1]).length]?=some n2:=by simp
  have p7:(h++[n1]).length=h.length+1:=by simp
  have ho:=(o.app n1).app n2;have K2:zD9 hf cd Q (Sm.op Ij k a b).val h.length (h++[n1]++[n2]) S fns W F:=K.le (by simp) (fun i hi=>by rw[zzk,zzc hi]);generalize (h++[n1]).length=q at *;generalize h++[n1]++[n2]=h2 at *;have e1:S++fr++[Wd.ad h.length]++[.ad q]=S++(fr++[.ad h.length,.ad q]):=by simp
  rw[e1]at R ⊢;have t1:(fr++[Wd.ad h.length,.ad q])[m+1]?=some (.ad q):=by rw[<-ak];simp
  have t0:(fr++[Wd.ad h.length,.ad q])[m]?=some (.ad h.length):=by rw[<-ak];simp
  have tl:(fr++[Wd.ad h.length,.ad q]).length=m+2:=by simp[ak]
  refine zCn (x:=.ad q) (W:=W+30*a.ct+30*b.ct+19) (F:=F+30*a.ct+30*b.ct+19) (by omega) (by rw[zCN];exact t1) R fun f R=>?_
  refine zCw (W:=W+30*a.ct+30*b.ct+18) (F:=F+30*a.ct+30*b.ct+18) (by omega) R fun f R=>?_
  refine zCn (x:=.ad h.length) (W:=W+30*a.ct+30*b.ct+17) (F:=F+30*a.ct+30*b.ct+17) (by omega) (by rw[zzk,zzk,zCN,zzc (by omega)];exact t0) R fun f R=>?_
  have e2:S++(fr++[Wd.ad h.length,.ad q])++[.ad q]++[.mk 1 (db+1)]++[.ad h.length]=S++(fr++[.ad h.length,.ad q])++[.ad q,.mk 1 (db+1),.ad h.length]:=by simp
  rw[e2]at R ⊢;refine zCk (F:=F+30*a.ct+30*b.ct+16) rfl R fun f R=>?_
  exact two hk gc gd hg o.len (zyN _) (by omega) (by omega) hp x1 hq x2 ho (R.less (by omega) (by omega)) K2
theorem zEc{e d:Th.Ex}(hx:Is (.op Ij k a b) e)(hk:k<4)(h7:e.kind=7)(hn:Th.texts e.names=[[112],[113]])(dQ:e.kids=[d,l,r])(B:Bd k d)(hl:Hld N fnl (n+2) a l)(hr:Hld N fnl (n+2) b r):Wrk (.op Ij k a b) (30*(a.ct+b.ct+1)) (work (free (N+1)) fnl (n+3) e below) below m:=by
 by_cases h0:below=0
 ·subst h0;have e1:work (free (N+1)) fnl (n+3) e 0=zkD (work (free (N+1)) fnl (n+2)) (free (N+1)) fnl e:=by
   funext b0
   rw[work,if_neg (by omega),if_neg (by omega),if_neg (by omega),if_pos (.inl h7),if_pos rfl]
  rw[e1];exact (zDc hk h7 hn dQ B hl hr).le (by omega)
 ·intro b0 hb;obtain ⟨is,bl,c1,c2,c0,c3⟩:=zDc (Ij:=Ij) (m:=0) hk h7 hn dQ B hl hr ⟨b0.blocks,[],[]⟩ rfl;simp only[zzb]at c1 c2;have Jc:(bl++[(0,is)]).length+1<=30*(a.ct+b.ct+1):=by simp;omega
  rw[work,if_neg (by omega),if_neg (by omega),if_neg (by omega),if_pos (.inl h7),if_neg h0,hb,zCs (zCd hx)];refine ⟨[.zci below,.jump (b0.blocks++bl).length],bl++[(0,is)],?_,?_,Jc,fun hf cd Q fns g1 g2 g3 h S fr ws f W F nx m1 m2 o R K=>?_⟩
  ·simp[Bs.zak,Bs.zhD,Bs.ends,Bs.write,c1,c2]
  ·simp[Bs.zak,Bs.zhD,Bs.ends,Bs.write,c1,c2]
  ·have g:=g3.right.one;rw[<-zyT]at g;refine zCk (W:=W+(30*a.ct+30*b.ct+28)) (F:=F+(30*a.ct+30*b.ct+29)) m2 (R.less (by omega) (by omega)) fun f R=>?_
   refine zEs R fun f R=>zB4 g ?_
   have aA:((S++ws).length:Int)-(0:Nat)=((S++ws).length:Int):=by simp
   rw[aA];have:=c3 hf cd Q fns g1 g2 g3.left h (S++ws) [] [] f W F ((b0.blocks++bl).length:Nat) rfl rfl o (by simpa using R) (by simpa using K);simpa using this
theorem zDm{e f g:Th.Ex}(h2:e.kids=[f,r])(h3:f.kind=5)(h4:f.kids=[g,l])(hg:g.kind≠5):spread (n+2) e=(g,[l,r]):=by
 rw[spread,h2];simp only;rw[if_pos h3,spread,h4];simp only;rw[if_neg hg];rfl
theorem zDr{e f g:Th.Ex}(hk:k<4)(h5:e.kind=5)(h2:e.kids=[f,r])(h3:f.kind=5)(h4:f.kids=[g,l])(sw:fnl.idxOf (Sm.name k)=k)(hg:(g.kind=2/\g.tok.s=Sm.name k)\/(g.kind=4/\Th.texts g.names=[[112],[113]]/\∃ d,g.kids=[d]/\Bd k d))(hl:Hld N fnl (n+3) a l)(hr:Hld N fnl (n+3) b r):Wrk (.op Ij k a b) (30*(a.ct+b.ct+1)) (work (free (N+1)) fnl (n+4) e below) below m:=fun b0 hb=>by
 obtain ⟨i2,b2,v1,v0,v2⟩:=hr b0 m hb;obtain ⟨i1,b1,w1,w0,w2⟩:=hl ⟨b0.blocks++b2,b0.zac++[[]],b0.code++[i2]⟩ (m+1) (by simp[hb,List.replicate_succ']);have hs:b0.zac++[[]]++[[]]++[[]]=List.replicate (m+3) []:=by simp[hb,List.replicate_succ']
 have ew:work (free (N+1)) fnl (n+4) e below b0=work (free (N+1)) fnl (n+3) g (below+3) ⟨b0.blocks++b2++b1,b0.zac++[[]]++[[]]++[[]],b0.code++[i2]++[i1]++[.zbF 2]⟩:=by
  rw[work,if_pos h5,zDm h2 h3 h4 (by omega)];simp only[List.reverse_cons,List.reverse_nil,zzb,zy7,zz2,List.foldl_nil];rw[v1,w1];rfl
 rw[ew];have main:∀ (hf:Nat) (cd:List (Nat × List Ins)) (Q:Except Nat Ma->Prop) (fns:List Nat) (fi:Ins) (fb c d:Nat),Good cd->FnA fns->zDp cd b0.blocks.length (b2++b1)->cd[fb]?=some (2,[.push 0,.wait c,.push 1,.zci 3,.enter])->cd[c]?=some (2,[.zbX,.push 1,.wait d,.push 0,.zci 3,.enter])->cd[d]?=some (2,[.comp ⟨(Sm.sign k).toArray⟩,.enter]) ->
   (∀ (h:List Nd) (st:List Wd) (f W F:Nat) (nx bl:Int) (is:List Ins),FO h->Res hf Q h st fns f (W+3) (F+1)->(∀ (h':List Nd) (fa f:Nat),h.length<=h'.length->(∀ i,i<h.length->h'[i]?=h[i]?)->h'[fa]?=some (.clo fb [])->Res hf Q h' (st++[.ad fa]) fns f W F->Ex hf cd Q is ⟨h',st++[.ad fa],fns,f,nx,bl⟩)->Ex hf cd Q (fi::is) ⟨h,st,fns,f,nx,bl⟩) ->
   zDq hf cd Q fns (.op Ij k a b) (30*(a.ct+b.ct+1)) [i2,i1,.zbF 2,fi,.zci (below+4),.enter] m below:=by
  intro hf cd Q fns fi fb c d g1 g2 g3 Jm hc hd hfi h S fr ws f W F nx m1 m2 o R K;obtain ⟨n2,x2,y2⟩:=v2 hf cd Q fns g1 g2 g3.left;obtain ⟨n1,x1,y1⟩:=w2 hf cd Q fns g1 g2 (by have:=g3.right;rwa [<-zyT]at this);refine y2 h (S++fr++ws) f (W+30*a.ct+30*b.ct+27) (F+30*a.ct+30*b.ct+29) nx S.length _ (R.less (by omega) (by omega)) fun f R=>?_
  refine y1 (h++[n2]) (S++fr++ws++[.ad h.length]) f (W+30*a.ct+30*b.ct+24) (F+30*a.ct+30*b.ct+28) nx S.length _ R fun f R=>?_
  refine zDw (W:=W+30*a.ct+30*b.ct+23) (F:=F+30*a.ct+30*b.ct+27) (by omega) R fun f R=>?_
  refine hfi (h++[n2]++[n1]) _ f (W+30*a.ct+30*b.ct+20) (F+30*a.ct+30*b.ct+26) nx S.length _ ((o.app n2).app n1) R fun h' fa f p1 p2 p3 R=>?_
  have hq:h'[h.length]?=some n2:=by rw[p2 _ (by simp)];simp
  have hp:h'[(h++[n2]).length]?=some n1:=by rw[p2 _ (by simp)];simp
  have gK:(h++[n2]).length=h.length+1:=by simp
  have ho:FO h':=fun j hj=>by rw[p2 j (by have:=o.len;simp;omega)];exact (o.app n2).app n1 j hj
  have K2:zD9 hf cd Q (Sm.op Ij k a b).val h.length h' (S++ws) fns W F:=K.le (by simp at p1;omega) (fun i hi=>by rw[p2 i (by simp;omega),zzk,zzc hi]);generalize (h++[n2]).length=p at *;rw[show S++fr++ws++[Wd.ad h.length]++[.ad p]++[.mk 2 2]++[.ad fa]=S++fr++(ws++[.ad h.length,.ad p,.mk 2 2,.ad fa]) by simp]at R ⊢;rw[<-m2];exact zEa hk Jm hc hd g1.1 o.len (by omega) (zyN _) (by omega) hp x1 hq x2 p3 ho (R.less (by omega) (by omega)) K2
 rcases hg with ⟨k1,k2⟩|⟨k1,k2,d,k3,k4⟩
 ·rw[zD8 k1,k2,zEi (by rw[hs];exact zD2 (zDZ k)),sw];refine ⟨[i2,i1,.zbF 2,.zcW k,.zci (below+4),.enter],b2++b1,by simp[Bs.ends,Bs.write],by simp[Bs.ends,Bs.write],by simp;omega,fun hf cd Q fns g1 g2 g3=>?_⟩;obtain ⟨c,d,q1,q2,q3⟩:=g1.2 k hk;exact main hf cd Q fns (.zcW k) k c d g1 g2 g3 q1 q2 q3 fun h st f W F nx bl is o R kk=>zDv (g2 k hk) (R.less (by omega) (zyN _)) fun f R=>kk h k f (zyN _) (fun _ _=>rfl) (o k hk) R
 ·have ak:([]:Nm) ∉ free (N+1) g:=fun hx=>by
   obtain ⟨M,hx⟩:=zEl k1 k3 hx;exact zCU k4 hx
  obtain ⟨c1,c2⟩:=zCP (N:=N) (n:=n) (fns:=fnl) (b:=⟨b0.blocks++b2++b1,[[113],[112]],[]⟩) (ip:=1) (iq:=0) k4 (by show za9 [[113],[112]] [112]=some 1;decide) (by show za9 [[113],[112]] [113]=some 0;decide);have eh:work (free (N+1)) fnl (n+3) g (below+3) ⟨b0.blocks++b2++b1,b0.zac++[[]]++[[]]++[[]],b0.code++[i2]++[i1]++[.zbF 2]⟩=⟨b0.blocks++b2++b1++[dB k,cB (b0.blocks++b2++b1).length]++[(2,[.push 0,.wait ((b0.blocks++b2++b1).length+1),.push 1,.zci 3,.enter])],b0.zac++[[]]++[[]]++[[]]++[[]],b0.code++[i2]++[i1]++[.zbF 2]++[.close ((b0.blocks++b2++b1).length+2) 0]++[.zci (below+4)]++[.enter]⟩:=by
   rw[work,if_neg (by omega),if_neg (by omega),if_neg (by omega),if_neg (by omega)];unfold zaI zal Bs.zhD;rw[if_neg (by omega),if_neg (by omega),if_neg (by omega),hs,zCs ak,k2,k3];simp only[List.reverse_cons,List.reverse_nil,zzb,zy7];rw[if_pos k1];simp only[c1,c2,Bs.zak,List.reverse_nil,List.foldl_nil,Bs.drop,Bs.push,Bs.ends,Bs.write];simp;omega
  rw[eh];refine ⟨[i2,i1,.zbF 2,.close ((b0.blocks++b2++b1).length+2) 0,.zci (below+4),.enter],b2++b1++([dB k]++[cB (b0.blocks++b2++b1).length]++[(2,[.push 0,.wait ((b0.blocks++b2++b1).length+1),.push 1,.zci 3,.enter])]),by simp,by simp,by simp;omega,fun hf cd Q fns g1 g2 g3=>?_⟩;have gd:=g3.right.left.left.one;have gc:=g3.right.left.right.one;have el:b0.blocks.length+(b2++b1).length=(b0.blocks++b2++b1).length:=by simp
  have gf:cd[b0.blocks.length+(b2++b1).length+2]?=some (2,[.push 0,.wait ((b0.blocks++b2++b1).length+1),.push 1,.zci 3,.enter]):=g3.right.right.one;rw[el]at gd gc gf;have bZ:=(zyL.1 gf).1;have hg:=g1.1;exact main hf cd Q fns _ _ _ _ g1 g2 g3.left gf gc gd fun h st f W F nx bl is o R kk=>zC8 (by omega) (R.less (by omega) (zyN _)) fun f R=>kk _ _ f (by simp) (fun i hi=>zzc hi) (by simp) R
theorem code(sw:∀ k,k<4->fnl.idxOf (Sm.name k)=k):∀ (x:Sm) (n below m:Nat) (e:Th.Ex),Is x e->4*x.ct<=n->Wrk x (30*x.ct) (work (free (N+1)) fnl n e below) below m
 |.num v,n,below,m,e,hx,hn=>by
  obtain ⟨n,rfl⟩:∃ k,n=k+1:=⟨n-1,by simp[Sm.ct]at hn;omega⟩;exact zEe hx
 |.op Ij k a b,n,below,m,e,hx,hn=>by
  have pa:=zC6 a;have pb:=zC6 b;simp only[Sm.ct]at hn;obtain ⟨n,rfl⟩:∃ k,n=k+4:=⟨n-4,by omega⟩;have ij:=hx;obtain ⟨hk,h⟩:=hx;rcases h with ⟨h1,h2,l,r,h3,h4,h5⟩|⟨h1,h2,d,l,r,h3,h4,h5,h6⟩|⟨h1,f,g,l,r,h2,h3,h4,h5,h6,h7⟩
  ·exact zEB hk h1 h2 h3 h5 (code sw a _ _ _ l h4 (by omega)) (code sw b _ _ _ r h5 (by omega))
  ·exact zEc (n:=n+1) ij hk h1 h2 h3 h4 (zCH h5 (code sw a _ _ _ l h5 (by omega))) (zCH h6 (code sw b _ _ _ r h6 (by omega)))
  ·exact zDr hk h1 h2 h3 h4 (sw k hk) h7 (zCH h5 (code sw a _ _ _ l h5 (by omega))) (zCH h6 (code sw b _ _ _ r h6 (by omega)))
abbrev O4:=Int × Int × Int × Int
def smR (v:Option Int):O4:=match v with|some n=>(1,n,0,0)|none=>(3,0,0,0)
def May (v:Option Int) (poor:Prop) (r:O4):Prop:=r=smR v\/(poor/\(r=(4,0,0,0)\/r=(5,0,0,0)))
def QQ (v:Option Int) (poor:Prop):Except Nat Ma->Prop
 |.error k=>May v poor (k,0,0,0)
 |.ok A=>∃ r,A.told=some r/\May v poor r
variable {hf fuel nf main:Nat} {cd:List (Nat × List Ins)} {Q:Except Nat Ma->Prop}
theorem zDB{P:Ma->Prop}:∀ (k i:Nat) (h:List Nd) (fns:List Nat) (f W F:Nat),i+k<=1000000000->Res hf Q h [] fns f (W+k) F->h.length=i ->
  (Res hf Q (h++(List.range' i k).map fun j=>.clo j []) [] (fns++List.range' i k) f W F->P ⟨h++(List.range' i k).map fun j=>.clo j [],[],fns++List.range' i k,f,0,0⟩)->Aft hf cd Q P (Ma.zbm hf i k ⟨h,[],fns,f,0,0⟩)
 |0,i,h,fns,f,W,F,_,R,_,k=>.inr ⟨⟨h,[],fns,f,0,0⟩,rfl,by simpa using k (by simpa using R)⟩
 |n+1,i,h,fns,f,W,F,hi,R,hl,k=>by
  rw[Ma.zbm,if_pos (by omega)];refine zCh (A:=⟨h,[],fns,f,0,0⟩) (R.less (by omega) (zyN _)) ?_;have R1:Res hf Q (h++[.clo i []]) [] (fns++[h.length]) f (W+n) F:=by
   have R2:=R.node (n:=.clo i []) (W':=W+n) rfl (by simp[sz];omega);exact ⟨⟨R2.1.1,fun a ha=>by rcases zzi.1 ha with ha|ha;exact R2.1.2.1 a ha;cases zze.1 ha;simp,R2.1.2.2⟩,R2.2⟩
  refine zDB n (i+1) _ _ f W F (by omega) R1 (by simp[hl]) fun R3=>?_
  have e1:h++[Nd.clo i []]++(List.range' (i+1) n).map (fun j=>Nd.clo j [])=h++(List.range' i (n+1)).map fun j=>.clo j []:=by simp[List.range'_succ]
  have e2:fns++[h.length]++List.range' (i+1) n=fns++List.range' i (n+1):=by simp[List.range'_succ,hl]
  rw[e1,e2]at R3 ⊢;exact k R3
theorem zEZ{is:List Ins}{poor:Prop}(hm:4<=m)(Av:m<=100)(hc:cd[m]?=some (0,is))(hr:∀ Q fns,FnA fns->zDq hf cd Q fns x (30*x.ct) is 0 0)(hp:poor\/(30*x.ct+300<=hf/\30*x.ct+300<=fuel)):∃ g r,zwX hf cd (m+1) m fuel g=some r/\May x.val poor r:=by
 have q4:poor->QQ x.val poor (.error 4):=fun p=>.inr ⟨p,.inl rfl⟩
 have q5:poor->QQ x.val poor (.error 5):=fun p=>.inr ⟨p,.inr rfl⟩
 have R0:Res hf (QQ x.val poor) [] [] [] fuel (30*x.ct+150+(m+1)) (30*x.ct+150):=⟨⟨by simp,by simp,by simp⟩,hp.imp q4 (fun h=>by simp;omega),hp.imp q5 (fun h=>by omega)⟩;have key:Aft hf cd (QQ x.val poor) (Fin hf cd (QQ x.val poor)) ((Ma.new fuel).start hf (cd.map Prod.fst) (m+1) m):=by
  have:=zDB (cd:=cd) (P:=fun A=>Aft hf cd (QQ x.val poor) (Fin hf cd (QQ x.val poor)) (ask hf 1 A fun A2=>match A2.fns[m]? with|none=>none|some a=>Ma.enter hf (cd.map Prod.fst) { A2 with st:=A2.st++[.ad a] })) (m+1) 0 [] [] fuel (30*x.ct+150) (30*x.ct+150) (by omega) R0 rfl (fun R=>?_)
  ·unfold Ma.start;show Aft hf cd _ _ (match Ma.zbm hf 0 (m+1) ⟨[],[],[],fuel,0,0⟩ with|none=>none|some (.error k)=>some (.error k)|some (.ok A1)=>ask hf 1 A1 fun A2=>match A2.fns[m]? with|none=>none|some a=>Ma.enter hf (cd.map Prod.fst) { A2 with st:=A2.st++[.ad a] });rcases this with ⟨k,e1,e2⟩|⟨A,e1,e2⟩
   ·rw[e1];exact .inl ⟨k,rfl,e2⟩
   ·rw[e1];exact e2
  ·simp only[zzb]at R ⊢;generalize hh:(List.range' 0 (m+1)).map (fun j=>Nd.clo j [])=h at *;have hlen:h.length=m+1:=by rw[<-hh];simp
   have hg:∀ i,i<=m->h[i]?=some (.clo i []):=fun i hi=>by rw[<-hh,List.getElem?_map,List.getElem?_range' (by omega)];simp
   have fj:(List.range' 0 (m+1))[m]?=some m:=by simp
   have hA:FnA (List.range' 0 (m+1)):=fun k hk=>by rw[List.getElem?_range' (by omega)];simp
   generalize List.range' 0 (m+1)=fns at *;refine zCh (A:=⟨h,[],fns,fuel,0,0⟩) (R.less (by omega) (zyN _)) ?_;simp only[fj];have ll:((⟨h,[]++[Wd.ad m],fns,fuel,0,0⟩:Ma).st.getLast?)=some (.ad m):=rfl;unfold Ma.enter;rw[ll];simp only;rw[zCE (hg m (zyN _)) rfl,hg m (zyN _)];simp only;rw[zEg hc];simp only;rw[if_pos (by simp)];unfold Ma.zdy;have R1:Res hf (QQ x.val poor) h [.ad m] fns fuel (30*x.ct+149) (30*x.ct+150):=R.stack (fun a ha=>by cases zze.1 ha;exact .inr (by omega)) (by simp;omega);refine zCh (A:=⟨h,[.ad m],fns,fuel,0,0⟩) (R1.less (show 1+([]:List Nat).length<=30*x.ct+149 by simp) (zyN _)) ?_;refine .inr ⟨⟨h.set m .busy,[.ad m,.mk 0 0],fns,fuel,m,0⟩,by simp[okA],zB4 hc ?_⟩;have R2:Res hf (QQ x.val poor) (h.set m .busy) [.ad m,.mk 0 0] fns fuel (100+30*x.ct) (100+30*x.ct):=((R1.set m (n:=.busy) rfl rfl).less (zyN _) (by omega:100+30*x.ct<=30*x.ct+150)).stack (fun a ha=>by simp at ha;exact .inl (by simp[ha])) (by simp;omega);have o:FO (h.set m .busy):=fun k hk=>by rw[zAo (by omega)];exact hg k (by omega)
   have:=hr (QQ x.val poor) fns hA (h.set m .busy) [.ad m,.mk 0 0] [] [] fuel 100 100 m rfl rfl o (by simpa using R2) ⟨fun e=>.inl (by rw[e];rfl),fun n hn h' a f nx bl p1 p2 p3 R=>?_⟩
   ·simpa using this
   ·have hb:h'[m]?=some .busy:=by rw[p2 m (by simp[hlen]),List.getElem?_set_self (by omega)]
    have uN:a≠m:=fun e=>by rw[e,hb]at p3;cases p3
    have:=zEm (hf:=hf) (cd:=cd) (Q:=QQ x.val poor) (h:=h') (st:=[]) (fns:=fns) (f:=f) (nx:=nx) (bl:=bl) (c:=m) (v:=a) (n:=n) hb p3 (zER ⟨smR x.val,?_,.inl rfl⟩)
    ·simpa using this
    ·rw[hn];unfold Ma.told;simp[zAo (Ne.symm uN),p3,smR]
 rcases key with ⟨k,e1,e2⟩|⟨A,e1,g,r,e2,e3⟩
 ·refine ⟨0,(k,0,0,0),?_,e2⟩;unfold zwX;rw[e1]
 ·refine ⟨g,?_⟩;unfold zwX;rw[e1];simp only[e2];cases r with
  |error k=>exact ⟨_,rfl,e3⟩
  |ok A2=>
   obtain ⟨r,e4,e5⟩:=e3;exact ⟨r,e4,e5⟩
end Sg
end Ab
end Go.Proofs.YtgahgkddaljmkaaGreatDoor
namespace Go.Proofs.YtgahgkddaljmkaaGreatDoor
open Tryz
namespace Sg
open Th Ab.Sg
def few:List UInt8:=[97,100,100,32,120,32,121,32,61,32,120,32,43,32,121,59,32,115,117,98,32,120,32,121,32,61,32,120,32,45,32,121,59,32,109,117,108,32,120,32,121,32,61,32,120,32,42,32,121,59,32,100,105,118,32,120,32,121,32,61,32,120,32,47,32,121,59,32]
def zEd:List UInt8:=[109,97,105,110,32,61]
def lnT (nm:List UInt8) (sg:UInt8) (p:Nat):List Tok:=[⟨2,nm,p⟩,⟨2,[120],p+4⟩,⟨2,[121],p+6⟩,⟨4,[61],p+8⟩,⟨2,[120],p+10⟩,⟨4,[sg],p+12⟩,⟨2,[121],p+14⟩,⟨4,[59],p+15⟩]
def fewT:List Tok:=lnT [97,100,100] 43 0++(lnT [115,117,98] 45 17++(lnT [109,117,108] 42 34++lnT [100,105,118] 47 51))
def zEY (p:Nat):List Tok:=[⟨2,zcO,p⟩,⟨4,[61],p+5⟩]
theorem zEb(n:Nat)(u:List UInt8):zdN (n+34) (few++(zEd++32::u)) 0=fewT++(zEY 68++zdN n (32::u) 74):=by
 show zdN (n+34) (97::100::100::32::120::32::121::32::61::32::120::32::43::32::121::59::32::115::117::98::32::120::32::121::32::61::32::120::32::45::32::121::59::32::109::117::108::32::120::32::121::32::61::32::120::32::42::32::121::59::32::100::105::118::32::120::32::121::32::61::32::120::32::47::32::121::59::32::109::97::105::110::32::61::32::u) 0=_
 kernel_rfl
def lnL (nm:List UInt8) (sg:UInt8) (p:Nat):zbr:=⟨⟨2,nm,p⟩,[⟨2,[120],p+4⟩,⟨2,[121],p+6⟩],ziR ⟨4,[sg],p+12⟩ (zbW ⟨2,[120],p+10⟩) (zbW ⟨2,[121],p+14⟩)⟩
def four:List zbr:=[lnL [97,100,100] 43 0,lnL [115,117,98] 45 17,lnL [109,117,108] 42 34,lnL [100,105,118] 47 51]
theorem zDi(T:List Tok):zcn (zdJ 1000) 1000 [] ⟨fewT++T,none⟩=zcn (zdJ 1000) 996 four ⟨T,none⟩:=by kernel_rfl
def zCg (e:Ex):List zbr:=four++[⟨⟨2,zcO,68⟩,[],e⟩]
def nms:List (List UInt8):=[Sm.name 0,Sm.name 1,Sm.name 2,Sm.name 3,zcO]
theorem zCC(n:Nat)(all:List (List UInt8)):∀ (l m:List zbr) (seen:List (List UInt8)),zbL n all seen (l++m)=zbL n all seen l++zbL n all (seen++zaq l) m
 |[],m,seen=>by simp[zbL,zaq]
 |x::l,m,seen=>by
  simp only[zy7,zbL,zCC n all l m,zaq,zza];simp
theorem zCW:zbL 1300 nms [] four=[]:=by kernel_rfl
theorem zCZ(z:Nat)(R:List Tok)(e:Ex)(h:zar 1300 e nms=[]):(answer z (zCg e,⟨R,none⟩) 1300).1=0:=by
 have e1:zaq (zCg e)=nms:=rfl;have e2:zbl (zCg e)=true:=rfl;have e3:zbL 1300 nms [] (zCg e)=[]:=by
  unfold zCg;rw[zCC,zCW];simp only[zbL,zzb,zzS,texts,List.map_nil,h,zjc];rfl
 unfold answer;simp only[e1,e3,e2];rfl
def fB (c:Nat):Nat × List Ins:=(2,[.push 0,.wait c,.push 1,.zci 3,.enter])
def bl4:List (Nat × List Ins):=[fB 6,fB 8,fB 10,fB 12,(0,[]),dB 0,cB 5,dB 1,cB 7,dB 2,cB 9,dB 3,cB 11]
theorem zCQ(fr:Ex->List Cp.Nm)(fns:List Cp.Nm)(n:Nat):∀ (l m:List zbr) (i:Nat) (bl:List (Nat × List Ins)),Cp.lines fr fns n i (l++m) bl=Cp.lines fr fns n (i+l.length) m (Cp.lines fr fns n i l bl)
 |[],m,i,bl=>rfl
 |x::l,m,i,bl=>by
  simp only[zy7,Cp.lines];rw[zCQ fr fns n l m,zy8,show i+(l.length+1)=i+1+l.length by omega]
theorem zDy:Cp.lines (Cp.free 1300) nms 1300 0 four (List.replicate 5 (0,[]))=bl4:=by kernel_rfl
theorem zD0(e:Ex):Cp.program 1300 (zCg e)=(Cp.work (Cp.free 1300) nms 1300 e 0 ⟨bl4,[],[]⟩).blocks.set 4 (0,(Cp.work (Cp.free 1300) nms 1300 e 0 ⟨bl4,[],[]⟩).code):=by
 have e1:(zCg e).map (fun f=>f.name.s)=nms:=rfl;have e2:(zCg e).length=5:=rfl;unfold Cp.program;rw[e1,e2];unfold zCg;rw[zCQ,zDy];simp only[Cp.lines];rfl
theorem zDd(e:Ex):(zCg e).length=5/\(zaq (zCg e)).idxOf zcO=4:=by
 have e1:zaq (zCg e)=nms:=rfl;rw[e1];exact ⟨rfl,by decide⟩
end Sg
end Go.Proofs.YtgahgkddaljmkaaGreatDoor
namespace Go.Proofs.YtgahgkddaljmkaaGreatDoor
open Tryz
open Th
theorem zDg:∀ (m q:Nat),zdN (m+1) [59] q=[⟨4,[59],q⟩,⟨0,[],q+1⟩]
 |0,q=>by kernel_rfl
 |m+1,q=>by kernel_rfl
end Go.Proofs.YtgahgkddaljmkaaGreatDoor
