/- SmP .. SmK -/
import Derived.Test.YtgahgkddaljmkaaGreatDoorR22
set_option maxRecDepth 100000
set_option maxHeartbeats 4000000
namespace Go.Proofs.YtgahgkddaljmkaaGreatDoor
open Tryz
namespace Sg
open Th Ab.Sg
def sh (t:Tok):Nat × List UInt8:=(t.k,t.s)
abbrev tkP (l:List (Nat × List UInt8)):List (Nat × List UInt8):=(4,[40])::(l++[(4,[41])])
def tk:Sm->List (Nat × List UInt8)
 |.num n=>[(3,zrn 2 n)]
 |.op Ij k a b=>
  if Ij<5 then tkP (tk a)++(4,Sm.sign k)::tkP (tk b) else
  if Ij=5 then (2,Sm.name k)::(tkP (tk a)++tkP (tk b)) else
  if Ij=6 then (4,zqP)::(2,[112])::(4,[61])::(tkP (tk a)++(4,[59])::(2,[113])::(4,[61])::(tkP (tk b)++[(4,sIn),(2,[112]),(4,Sm.sign k),(2,[113])])) else
  (4,[40])::(4,[92])::(2,[112])::(2,[113])::(4,[46])::(2,[112])::(4,Sm.sign k)::(2,[113])::(4,[41])::(tkP (tk a)++tkP (tk b))
def Atm (ex:Rd) (X:List Tok) (e:Ex):Prop:=∀ R,zcI ⟨X++R,none⟩=true/\zeU ex ⟨X++R,none⟩=some (e,⟨R,none⟩)
def Stop (R:List Tok):Prop:=∃ t R',R=t::R'/\t.k=4/\(t.s=[41]\/t.s=[59]\/t.s=sIn\/t.s=sOf)
variable {R:List Tok}
theorem Stop.facts(h:Stop R):zcI ⟨R,none⟩=false/\St.is [42] ⟨R,none⟩=false/\St.is [47] ⟨R,none⟩=false/\St.is [43] ⟨R,none⟩=false/\St.is [45] ⟨R,none⟩=false/\St.is [61,61] ⟨R,none⟩=false/\St.is [60] ⟨R,none⟩=false:=by
 obtain ⟨t,R',rfl,h1,h2⟩:=h;rcases h2 with h2|h2|h2|h2
 all_goals simp[zcI,St.is,St.kind,St.hd,h1,h2,sIn,sOf]
variable {ex:Rd}{X:List Tok}{e:Ex}{k:Nat}
theorem zCo(h:Atm ex X e)(hb:zcI ⟨R,none⟩=false):zhP ex (k+1) ⟨X++R,none⟩=some (e,⟨R,none⟩):=by
 unfold zhP;rw[(h R).2];simp only[zzD,zcV,hb];rfl
theorem zCy{Y Z:List Tok}{f g:Ex}(hx:Atm ex X e)(hy:Atm ex Y f)(hz:Atm ex Z g)(hb:zcI ⟨R,none⟩=false):zhP ex (k+3) ⟨X++(Y++(Z++R)),none⟩=some (zch (zch e f) g,⟨R,none⟩):=by
 unfold zhP;rw[(hx _).2];simp only[zzD];rw[zcV,if_pos (hy _).1,(hy _).2];simp only[zzD];rw[zcV,if_pos (hz _).1,(hz _).2];simp only[zzD,zcV,hb];rfl
theorem zCI{sub:St->Option (Ex × St)}{a b:List UInt8}{st:St}(ha:st.is a=false)(hb:st.is b=false):zku sub a b (k+1) e st=some (e,st):=by
 rw[zku,ha,hb];rfl
variable {T:List Tok}
theorem zCJ(h:zhP ex (k+1) ⟨T,none⟩=some (e,⟨R,none⟩))(h1:St.is [42] ⟨R,none⟩=false)(h2:St.is [47] ⟨R,none⟩=false):zcG ex (k+1) ⟨T,none⟩=some (e,⟨R,none⟩):=by
 unfold zcG;rw[h];exact zCI h1 h2
theorem zDe(h:zu0 ex (k+1) ⟨T,none⟩=some (e,⟨R,none⟩))(S:Stop R):zjD ex (k+1) ⟨T,none⟩=some (e,⟨R,none⟩):=by
 unfold zjD;rw[h];simp only[zzD,S.facts];rfl
theorem zD1(h:zcG ex (k+1) ⟨T,none⟩=some (e,⟨R,none⟩))(S:Stop R):zu0 ex (k+1) ⟨T,none⟩=some (e,⟨R,none⟩):=by
 unfold zu0;rw[h];exact zCI S.facts.2.2.2.1 S.facts.2.2.2.2.1
theorem zCp(h:zhP ex (k+1) ⟨T,none⟩=some (e,⟨R,none⟩))(S:Stop R):zjD ex (k+1) ⟨T,none⟩=some (e,⟨R,none⟩):=
 zDe (zD1 (zCJ h S.facts.2.1 S.facts.2.2.1) S) S
variable {o:Tok}{j:Nat}
theorem zD6{Y:List Tok}{f:Ex}(hj:j<4)(h4:o.k=4)(ho:o.s=Sm.sign j)(hx:Atm ex X e)(hy:Atm ex Y f)(S:Stop R):zjD ex (k+2) ⟨X++(o::(Y++R)),none⟩=some (ziR o e f,⟨R,none⟩):=by
 have hb:zcI ⟨o::(Y++R),none⟩=false:=by
  obtain rfl|rfl|rfl|rfl:j=0\/j=1\/j=2\/j=3:=by omega
  all_goals simp[zcI,St.is,St.kind,St.hd,h4,ho,Sm.sign]
 have c1:zhP ex (k+2) ⟨X++(o::(Y++R)),none⟩=some (e,⟨o::(Y++R),none⟩):=zCo (k:=k+1) hx hb;have c2:zhP ex (k+2) ⟨Y++R,none⟩=some (f,⟨R,none⟩):=zCo (k:=k+1) hy S.facts.1;refine zDe (k:=k+1) ?_ S;by_cases hp:j<2
 ·have p1:zcG ex (k+2) ⟨X++(o::(Y++R)),none⟩=some (e,⟨o::(Y++R),none⟩):=by
   obtain rfl|rfl:j=0\/j=1:=by omega
   all_goals exact zCJ (k:=k+1) c1 (by simp[St.is,St.hd,ho,Sm.sign]) (by simp[St.is,St.hd,ho,Sm.sign])
  have p2:=zCJ (k:=k+1) c2 S.facts.2.1 S.facts.2.2.1;unfold zu0;rw[p1];simp only[zzD];have hi:(St.is [43] ⟨o::(Y++R),none⟩||St.is [45] ⟨o::(Y++R),none⟩)=true:=by
   obtain rfl|rfl:j=0\/j=1:=by omega
   all_goals simp[St.is,St.hd,ho,Sm.sign]
  rw[zku,if_pos hi];show (zcG ex (k+2) ⟨Y++R,none⟩).bind _=_;rw[p2];exact zCI S.facts.2.2.2.1 S.facts.2.2.2.2.1
 ·refine zD1 (k:=k+1) ?_ S;unfold zcG;rw[c1];simp only[zzD];have hi:(St.is [42] ⟨o::(Y++R),none⟩||St.is [47] ⟨o::(Y++R),none⟩)=true:=by
   obtain rfl|rfl:j=2\/j=3:=by omega
   all_goals simp[St.is,St.hd,ho,Sm.sign]
  rw[zku,if_pos hi];show (zhP ex (k+2) ⟨Y++R,none⟩).bind _=_;rw[c2];exact zCI S.facts.2.1 S.facts.2.2.1
variable {t:Tok}
theorem zCD(h:t.k=2):Atm ex [t] (zbW t):=fun R=>by
 simp[zcI,zeU,St.kind,St.hd,St.adv,h]
theorem zEq(h:t.k=3):Atm ex [t] (mkNum (Th.val t.s)):=fun R=>by
 simp[zcI,zeU,St.kind,St.hd,St.adv,h]
theorem zCi{lp rp:Tok}(hl:sh lp=(4,[40]))(hr:sh rp=(4,[41]))(h:∀ R,Stop R->ex false ⟨T++R,none⟩=some (e,⟨R,none⟩)):Atm ex (lp::(T++[rp])) e:=fun R=>by
 obtain ⟨l1,l2⟩:=Prod.mk.inj hl;obtain ⟨r1,r2⟩:=Prod.mk.inj hr;have hs:Stop (rp::R):=⟨rp,R,rfl,r1,.inl r2⟩;have e1:lp::(T++[rp])++R=lp::(T++rp::R):=by simp
 rw[e1];refine ⟨by simp[zcI,St.is,St.kind,St.hd,l2],?_⟩;unfold zeU;rw[if_neg (by simp[St.kind,St.hd,l1]),if_neg (by simp[St.kind,St.hd,l1]),if_neg (by simp[St.is,St.hd,l2]),if_pos (by simp[St.is,St.hd,l2])];show (ex false ⟨T++rp::R,none⟩).bind _=_;rw[h _ hs];simp[want,St.is,St.hd,St.adv,r2]
theorem zCj{A:List Tok}{l:List (Nat × List UInt8)}(h:A.map sh=tkP l):∃ lp T rp,A=lp::(T++[rp])/\sh lp=(4,[40])/\T.map sh=l/\sh rp=(4,[41]):=by
 obtain ⟨lp,B,rfl,h1,h2⟩:=List.map_eq_cons_iff.1 h;obtain ⟨T,C,rfl,h3,h4⟩:=List.map_eq_append_iff.1 h2;obtain ⟨rp,D,rfl,h5,h6⟩:=List.map_eq_cons_iff.1 h4;cases List.map_eq_nil_iff.1 h6;exact ⟨lp,T,rp,rfl,h1,h3,h5⟩
theorem zCb{outer:Bool}(h1:t.s≠zqP)(h2:t.s≠zjO)(h3:t.s≠[92]):zg7 ex k outer ⟨t::R,none⟩=zjD ex k ⟨t::R,none⟩:=by
 unfold zg7;rw[if_neg (by simpa [St.is,St.hd] using h1),if_neg (by simpa [St.is,St.hd] using h2),if_neg (by simpa [St.is,St.hd] using h3)]
theorem zDs{v:Nat}(h:v<40):zrn 2 v≠zqP/\zrn 2 v≠zjO/\zrn 2 v≠[92]/\Th.val (zrn 2 v)=v:=by
 revert v
 decide +kernel
theorem zDk(k:Nat):Sm.name k≠zqP/\Sm.name k≠zjO/\Sm.name k≠[92]:=by
 unfold Sm.name;split
 ·decide
 ·split
  ·decide
  ·split <;> decide
variable {n:Nat}
theorem zDa{lp rp:Tok}(hl:sh lp=(4,[40]))(hr:sh rp=(4,[41]))(h:∀ R,Stop R->zdJ (n+1) false ⟨T++R,none⟩=some (e,⟨R,none⟩))(outer:Bool)(S:Stop R):zdJ (n+2) outer ⟨lp::(T++[rp])++R,none⟩=some (e,⟨R,none⟩):=by
 obtain ⟨l1,l2⟩:=Prod.mk.inj hl;show zg7 (zdJ (n+1)) (n+1) outer ⟨lp::((T++[rp])++R),none⟩=_;rw[zCb (by rw[l2];decide) (by rw[l2];decide) (by rw[l2];decide)];exact zCp (zCo (zCi hl hr h) S.facts.1) S
theorem zDx(hj:j<4){p q:Tok}(hp:sh p=(2,[112]))(ho:sh o=(4,Sm.sign j))(hq:sh q=(2,[113]))(outer:Bool)(S:Stop R):zdJ (n+3) outer ⟨p::o::q::R,none⟩=some (ziR o (zbW p) (zbW q),⟨R,none⟩):=by
 obtain ⟨p1,p2⟩:=Prod.mk.inj hp;obtain ⟨o1,o2⟩:=Prod.mk.inj ho;obtain ⟨q1,q2⟩:=Prod.mk.inj hq;show zg7 (zdJ (n+2)) (n+2) outer ⟨p::o::q::R,none⟩=_;rw[zCb (by rw[p2];decide) (by rw[p2];decide) (by rw[p2];decide)];exact zD6 (X:=[p]) (Y:=[q]) hj o1 o2 (zCD p1) (zCD q1) S
theorem zEL{p q:Tok}(hp:sh p=(2,[112]))(ho:sh o=(4,Sm.sign j))(hq:sh q=(2,[113])):Bd j (ziR o (zbW p) (zbW q)):=
 ⟨rfl,(Prod.mk.inj ho).2,zbW p,zbW q,rfl,rfl,(Prod.mk.inj hp).2,rfl,(Prod.mk.inj hq).2⟩
theorem zCm{s:List UInt8}(h:t.s=s):want s ⟨t::R,none⟩=⟨R,none⟩:=by
 simp[want,St.is,St.hd,St.adv,h]
theorem zCc(h:t.k=2):zaL ⟨t::R,none⟩=(t,⟨R,none⟩):=by
 simp[zaL,St.kind,St.hd,St.adv,h]
theorem zEP(hj:j<4){A B:List Tok}{ea eb:Ex}{t1 p1 e1 s1 q1 e2 i1 p2 o2 q2:Tok}(ht:sh t1=(4,zqP))(sN:sh p1=(2,[112]))(IS:sh e1=(4,[61]))(aW:sh s1=(4,[59]))(cF:sh q1=(2,[113]))(IT:sh e2=(4,[61]))(GB:sh i1=(4,sIn))(fB:sh p2=(2,[112]))(jb:sh o2=(4,Sm.sign j))(bC:sh q2=(2,[113]))(ha:∀ outer R,Stop R->zdJ (n+3) outer ⟨A++R,none⟩=some (ea,⟨R,none⟩))(hb:∀ outer R,Stop R->zdJ (n+3) outer ⟨B++R,none⟩=some (eb,⟨R,none⟩))(outer:Bool)(S:Stop R):
  zdJ (n+4) outer ⟨t1::p1::e1::(A++s1::q1::e2::(B++i1::p2::o2::q2::R)),none⟩=some (mkLet false [p1,q1] [ea,eb] (ziR o2 (zbW p2) (zbW q2)),⟨R,none⟩):=by
 obtain ⟨t11,t12⟩:=Prod.mk.inj ht;obtain ⟨ID,I7⟩:=Prod.mk.inj sN;obtain ⟨JD,Jh⟩:=Prod.mk.inj IS;obtain ⟨Jv,I8⟩:=Prod.mk.inj aW;obtain ⟨IE,Ju⟩:=Prod.mk.inj cF;obtain ⟨JE,Ji⟩:=Prod.mk.inj IT;obtain ⟨pw,i12⟩:=Prod.mk.inj GB;show zg7 (zdJ (n+3)) (n+3) outer _=_;unfold zg7;rw[if_pos (by simp[St.is,St.hd,t12])];unfold ztQ;have hr:St.is zo8 (St.adv ⟨t1::p1::e1::(A++s1::q1::e2::(B++i1::p2::o2::q2::R)),none⟩)=false:=by simp[St.is,St.hd,St.adv,I7,zo8]
 have hs:Stop (s1::q1::e2::(B++i1::p2::o2::q2::R)):=⟨_,_,rfl,Jv,.inr (.inl I8)⟩;have hi:Stop (i1::p2::o2::q2::R):=⟨_,_,rfl,pw,.inr (.inr (.inl i12))⟩;have It:zcu (zdJ (n+3)) (n+3) [] [] ⟨p1::e1::(A++s1::q1::e2::(B++i1::p2::o2::q2::R)),none⟩=some ([p1,q1],[ea,eb],⟨i1::p2::o2::q2::R,none⟩):=by
  rw[zcu];simp only[zCc ID,zCm Jh];rw[ha true _ hs];simp only[zzD];rw[if_pos (by simp[St.is,St.hd,I8]),zcu];show (zdJ (n+3) true (want [61] (zaL ⟨q1::e2::(B++i1::p2::o2::q2::R),none⟩).2)).bind _=_;rw[zCc IE];simp only[zCm Ji];rw[hb true _ hi];simp only[zzD];rw[if_neg (by simp[St.is,St.hd,i12,sIn])];show some ([]++[p1]++[(zaL ⟨q1::e2::(B++i1::p2::o2::q2::R),none⟩).1],[]++[ea]++[eb],_)=_;rw[zCc IE];rfl
 simp only[hr];show (zcu (zdJ (n+3)) (n+3) [] [] ⟨p1::e1::(A++s1::q1::e2::(B++i1::p2::o2::q2::R)),none⟩).bind _=_;rw[It];simp only[zzD,zCm i12];rw[zDx hj fB jb bC outer S];rfl
theorem zEO(hj:j<4){b1 p1 q1 d1 p2 o2 q2:Tok}(aA:sh b1=(4,[92]))(sN:sh p1=(2,[112]))(cF:sh q1=(2,[113]))(IQ:sh d1=(4,[46]))(fB:sh p2=(2,[112]))(jb:sh o2=(4,Sm.sign j))(bC:sh q2=(2,[113]))(outer:Bool)(S:Stop R):
  zdJ (n+4) outer ⟨b1::p1::q1::d1::p2::o2::q2::R,none⟩=some (mkFun [p1,q1] (ziR o2 (zbW p2) (zbW q2)),⟨R,none⟩):=by
 obtain ⟨JA,Ip⟩:=Prod.mk.inj aA;obtain ⟨ID,I7⟩:=Prod.mk.inj sN;obtain ⟨IE,Ju⟩:=Prod.mk.inj cF;obtain ⟨d11,d12⟩:=Prod.mk.inj IQ;show zg7 (zdJ (n+3)) (n+3) outer _=_;unfold zg7;rw[if_neg (by simp[St.is,St.hd,Ip,zqP]),if_neg (by simp[St.is,St.hd,Ip,zjO]),if_pos (by simp[St.is,St.hd,Ip])];unfold ztO;show (zdJ (n+3) outer (want [46] (zax (zaL ⟨p1::q1::d1::p2::o2::q2::R,none⟩).2).2)).bind _=_;have hn:zax ⟨q1::d1::p2::o2::q2::R,none⟩=([q1],⟨d1::p2::o2::q2::R,none⟩):=by
  simp[zax,IE,d11]
 rw[zCc ID];simp only[hn,zCm d12];rw[zDx hj fB jb bC outer S];show some (mkFun ((zaL ⟨p1::q1::d1::p2::o2::q2::R,none⟩).1::(zax (zaL ⟨p1::q1::d1::p2::o2::q2::R,none⟩).2).1) _,_)=_;rw[zCc ID];simp only[hn]
theorem read:∀ (x:Sm) (d:Nat),Sm.Ok d x->∀ n,4*x.ct<=n->∀ T:List Tok,T.map sh=tk x->∃ e,Is x e/\∀ (outer:Bool) (R:List Tok),Stop R->zdJ n outer ⟨T++R,none⟩=some (e,⟨R,none⟩)
 |.num v,d,ho,n,hn,T,hT=>by
  have hv:v<40:=by cases d <;> exact ho
  obtain ⟨t,B,rfl,h1,h2⟩:=List.map_eq_cons_iff.1 hT;cases List.map_eq_nil_iff.1 h2;obtain ⟨t1,t2⟩:=Prod.mk.inj h1;obtain ⟨f1,f2,f3,f4⟩:=zDs hv;obtain ⟨n,rfl⟩:∃ k,n=k+2:=⟨n-2,by simp[Sm.ct]at hn;omega⟩;refine ⟨mkNum (Th.val t.s),⟨rfl,by rw[t2];exact f4⟩,fun outer R S=>?_⟩;show zg7 (zdJ (n+1)) (n+1) outer ⟨t::R,none⟩=_;rw[zCb (by rw[t2];exact f1) (by rw[t2];exact f2) (by rw[t2];exact f3)];exact zCp (zCo (X:=[t]) (zEq t1) S.facts.1) S
 |.op Ij k a b,0,ho,_,_,_,_=>ho.elim
 |.op Ij k a b,d+1,⟨h1,h8,hk,oa,ob⟩,n,hn,T,hT=>by
  have pa:=zC6 a;have pb:=zC6 b;simp only[Sm.ct]at hn;obtain ⟨n,rfl⟩:∃ k,n=k+5:=⟨n-5,by omega⟩;rw[tk]at hT;split at hT
  ·obtain ⟨A,B,rfl,hA,hB⟩:=List.map_eq_append_iff.1 hT;obtain ⟨o,C,rfl,ho,hC⟩:=List.map_eq_cons_iff.1 hB;obtain ⟨lp,TA,rp,rfl,l1,l2,l3⟩:=zCj hA;obtain ⟨lq,TB,rq,rfl,m1,m2,m3⟩:=zCj hC;obtain ⟨ea,ia,ra⟩:=read a d oa (n+4) (by omega) TA l2;obtain ⟨eb,ib,rb⟩:=read b d ob (n+4) (by omega) TB m2;obtain ⟨o1,o2⟩:=Prod.mk.inj ho;refine ⟨ziR o ea eb,⟨hk,.inl ⟨rfl,o2,ea,eb,rfl,ia,ib⟩⟩,fun outer R S=>?_⟩;obtain ⟨_,l4⟩:=Prod.mk.inj l1;rw[show lp::(TA++[rp])++o::(lq::(TB++[rq]))++R=lp::((TA++[rp])++o::((lq::(TB++[rq]))++R)) by simp];show zg7 (zdJ (n+4)) (n+4) outer _=_;rw[zCb (by rw[l4];decide) (by rw[l4];decide) (by rw[l4];decide)];exact zD6 (X:=lp::(TA++[rp])) (Y:=lq::(TB++[rq])) hk o1 o2 (zCi l1 l3 (ra false)) (zCi m1 m3 (rb false)) S
  ·split at hT
   ·obtain ⟨g,B,rfl,hg,hB⟩:=List.map_eq_cons_iff.1 hT;obtain ⟨A,C,rfl,hA,hC⟩:=List.map_eq_append_iff.1 hB;obtain ⟨lp,TA,rp,rfl,l1,l2,l3⟩:=zCj hA;obtain ⟨lq,TB,rq,rfl,m1,m2,m3⟩:=zCj hC;obtain ⟨ea,ia,ra⟩:=read a d oa (n+4) (by omega) TA l2;obtain ⟨eb,ib,rb⟩:=read b d ob (n+4) (by omega) TB m2;obtain ⟨g1,g2⟩:=Prod.mk.inj hg;obtain ⟨f1,f2,f3⟩:=zDk k;refine ⟨zch (zch (zbW g) ea) eb,⟨hk,.inr (.inr ⟨rfl,_,_,ea,eb,rfl,rfl,rfl,ia,ib,.inl ⟨rfl,g2⟩⟩)⟩,fun outer R S=>?_⟩;rw[show g::(lp::(TA++[rp])++(lq::(TB++[rq])))++R=g::((lp::(TA++[rp]))++((lq::(TB++[rq]))++R)) by simp];show zg7 (zdJ (n+4)) (n+4) outer _=_;rw[zCb (by rw[g2];exact f1) (by rw[g2];exact f2) (by rw[g2];exact f3)];exact zCp (zCy (X:=[g]) (k:=n+1) (zCD g1) (zCi l1 l3 (ra false)) (zCi m1 m3 (rb false)) S.facts.1) S
   ·split at hT
    ·obtain ⟨t1,T1,rfl,od,kL⟩:=List.map_eq_cons_iff.1 hT;obtain ⟨p1,T2,rfl,sN,gl⟩:=List.map_eq_cons_iff.1 kL;obtain ⟨e1,T3,rfl,IS,rK⟩:=List.map_eq_cons_iff.1 gl;obtain ⟨A,T4,rfl,hA,IJ⟩:=List.map_eq_append_iff.1 rK;obtain ⟨s1,T5,rfl,aW,IK⟩:=List.map_eq_cons_iff.1 IJ;obtain ⟨q1,T6,rfl,cF,IL⟩:=List.map_eq_cons_iff.1 IK;obtain ⟨e2,T7,rfl,IT,zX⟩:=List.map_eq_cons_iff.1 IL;obtain ⟨B,T8,rfl,hB,IM⟩:=List.map_eq_append_iff.1 zX;obtain ⟨i1,T9,rfl,GB,IN⟩:=List.map_eq_cons_iff.1 IM;obtain ⟨p2,Jw,rfl,fB,IG⟩:=List.map_eq_cons_iff.1 IN;obtain ⟨o2,Jy,rfl,jb,IH⟩:=List.map_eq_cons_iff.1 IG;obtain ⟨q2,Jz,rfl,bC,II⟩:=List.map_eq_cons_iff.1 IH;cases List.map_eq_nil_iff.1 II;obtain ⟨lp,TA,rp,rfl,l1,l2,l3⟩:=zCj hA;obtain ⟨lq,TB,rq,rfl,m1,m2,m3⟩:=zCj hB;obtain ⟨ea,ia,ra⟩:=read a d oa (n+3) (by omega) TA l2;obtain ⟨eb,ib,rb⟩:=read b d ob (n+3) (by omega) TB m2;refine ⟨mkLet false [p1,q1] [ea,eb] (ziR o2 (zbW p2) (zbW q2)),⟨hk,.inr (.inl ⟨rfl,?_,_,ea,eb,rfl,zEL fB jb bC,ia,ib⟩)⟩,fun outer R S=>?_⟩
     ·show [p1.s,q1.s]=_;rw[(Prod.mk.inj sN).2,(Prod.mk.inj cF).2]
     ·have:=zEP (n:=n+1) hk od sN IS aW cF IT GB fB jb bC (fun o R S=>zDa l1 l3 (ra false) o S) (fun o R S=>zDa m1 m3 (rb false) o S) outer S;simpa using this
    ·obtain ⟨t1,T1,rfl,od,kL⟩:=List.map_eq_cons_iff.1 hT;obtain ⟨b1,T2,rfl,aA,gl⟩:=List.map_eq_cons_iff.1 kL;obtain ⟨p1,T3,rfl,sN,rK⟩:=List.map_eq_cons_iff.1 gl;obtain ⟨q1,T4,rfl,cF,IJ⟩:=List.map_eq_cons_iff.1 rK;obtain ⟨d1,T5,rfl,IQ,IK⟩:=List.map_eq_cons_iff.1 IJ;obtain ⟨p2,T6,rfl,fB,IL⟩:=List.map_eq_cons_iff.1 IK;obtain ⟨o2,T7,rfl,jb,zX⟩:=List.map_eq_cons_iff.1 IL;obtain ⟨q2,T8,rfl,bC,IM⟩:=List.map_eq_cons_iff.1 zX;obtain ⟨t2,T9,rfl,p9,IN⟩:=List.map_eq_cons_iff.1 IM;obtain ⟨A,C,rfl,hA,hC⟩:=List.map_eq_append_iff.1 IN;obtain ⟨lp,TA,rp,rfl,l1,l2,l3⟩:=zCj hA;obtain ⟨lq,TB,rq,rfl,m1,m2,m3⟩:=zCj hC;obtain ⟨ea,ia,ra⟩:=read a d oa (n+4) (by omega) TA l2;obtain ⟨eb,ib,rb⟩:=read b d ob (n+4) (by omega) TB m2;have hf:Atm (zdJ (n+4)) (t1::([b1,p1,q1,d1,p2,o2,q2]++[t2])) (mkFun [p1,q1] (ziR o2 (zbW p2) (zbW q2))):=zCi od p9 (fun R S=>zEO (n:=n) hk aA sN cF IQ fB jb bC false S);refine ⟨zch (zch (mkFun [p1,q1] (ziR o2 (zbW p2) (zbW q2))) ea) eb,⟨hk,.inr (.inr ⟨rfl,_,_,ea,eb,rfl,rfl,rfl,ia,ib,.inr ⟨rfl,?_,_,rfl,zEL fB jb bC⟩⟩)⟩,fun outer R S=>?_⟩
     ·show [p1.s,q1.s]=_;rw[(Prod.mk.inj sN).2,(Prod.mk.inj cF).2]
     ·obtain ⟨_,l4⟩:=Prod.mk.inj od;have:=zCy (k:=n+1) (R:=R) hf (zCi l1 l3 (ra false)) (zCi m1 m3 (rb false)) S.facts.1;show zg7 (zdJ (n+4)) (n+4) outer _=_;have e0:t1::b1::p1::q1::d1::p2::o2::q2::t2::(lp::(TA++[rp])++(lq::(TB++[rq])))++R=t1::([b1,p1,q1,d1,p2,o2,q2]++[t2])++((lp::(TA++[rp]))++((lq::(TB++[rq]))++R)):=by simp
      rw[e0];show zg7 (zdJ (n+4)) (n+4) outer ⟨t1::(([b1,p1,q1,d1,p2,o2,q2]++[t2])++((lp::(TA++[rp]))++((lq::(TB++[rq]))++R))),none⟩=_;rw[zCb (by rw[l4];decide) (by rw[l4];decide) (by rw[l4];decide)];exact zCp this S
end Sg
end Go.Proofs.YtgahgkddaljmkaaGreatDoor
namespace Go.Proofs.YtgahgkddaljmkaaGreatDoor
open Tryz
namespace Ab
namespace Sg
open Cp
def zDp (cd:List (Nat × List Ins)) (s:Nat) (bl:List (Nat × List Ins)):Prop:=∀ i,i<bl.length->cd[s+i]?=bl[i]?
variable {cd:List (Nat × List Ins)}{s:Nat}
theorem zDp.left{a b:List (Nat × List Ins)}(h:zDp cd s (a++b)):zDp cd s a:=fun i hi=>by
 rw[h i (by simp;omega),zzc hi]
theorem zDp.right{a b:List (Nat × List Ins)}(h:zDp cd s (a++b)):zDp cd (s+a.length) b:=fun i hi=>by
 rw[Nat.add_assoc,h (a.length+i) (by simp;omega),zy3 (by omega),Nat.add_sub_cancel_left]
theorem zDp.one{x:Nat × List Ins}(h:zDp cd s [x]):cd[s]?=some x:=h 0 (by simp)
def Good (cd:List (Nat × List Ins)):Prop:=cd.length<1000000000/\∀ k,k<4->∃ c d,cd[k]?=some (2,[.push 0,.wait c,.push 1,.zci 3,.enter])/\cd[c]?=some (2,[.zbX,.push 1,.wait d,.push 0,.zci 3,.enter])/\cd[d]?=some (2,[.comp ⟨(Sm.sign k).toArray⟩,.enter])
def FnA (fns:List Nat):Prop:=∀ k,k<4->fns[k]?=some k
def zDq (hf:Nat) (cd:List (Nat × List Ins)) (Q:Except Nat Ma->Prop) (fns:List Nat) (x:Sm) (c:Nat) (is:List Ins) (m below:Nat):Prop:=
 ∀ (h:List Nd) (S fr ws:List Wd) (f W F:Nat) (nx:Int),fr.length+ws.length=m->ws.length=below->FO h->Res hf Q h (S++fr++ws) fns f (W+c) (F+c)->zD9 hf cd Q x.val h.length h (S++ws) fns W F->Ex hf cd Q is ⟨h,S++fr++ws,fns,f,nx,S.length⟩
def Wrk (x:Sm) (c:Nat) (wk:Bs->Bs) (below m:Nat):Prop:=∀ (b:Bs),Sl m b.zac->∃ is bl,(wk b).code=b.code++is/\(wk b).blocks=b.blocks++bl/\bl.length+1<=c /\
 ∀ hf cd Q fns,Good cd->FnA fns->zDp cd b.blocks.length bl->zDq hf cd Q fns x c is m below
def Hld (N:Nat) (fnl:List Nm) (n:Nat) (x:Sm) (e:Th.Ex):Prop:=∀ (b:Bs) (m:Nat),Sl m b.zac->∃ i bl,zaI (work (free (N+1)) fnl n) (free (N+1)) fnl b e=⟨b.blocks++bl,b.zac++[[]],b.code++[i]⟩/\bl.length<=30*x.ct /\
 ∀ hf cd Q fns,Good cd->FnA fns->zDp cd b.blocks.length bl->∃ nd,HdN hf cd Q fns nd x/\∀ (h:List Nd) (st:List Wd) (f W F:Nat) (nx bl:Int) (is:List Ins),Res hf Q h st fns f (W+3) (F+1)->(∀ f,Res hf Q (h++[nd]) (st++[.ad h.length]) fns f W F->Ex hf cd Q is ⟨h++[nd],st++[.ad h.length],fns,f,nx,bl⟩)->Ex hf cd Q (i::is) ⟨h,st,fns,f,nx,bl⟩
variable {x:Sm}{below m:Nat}
theorem Wrk.le{c c':Nat}{wk:Bs->Bs}(h:Wrk x c wk below m)(hc:c<=c'):Wrk x c' wk below m:=fun b hb=>by
 obtain ⟨is,bl,h1,h2,h0,h3⟩:=h b hb;exact ⟨is,bl,h1,h2,by omega,fun hf cd Q fns g1 g2 g3 h S fr ws f W F nx m1 m2 o R K=>h3 hf cd Q fns g1 g2 g3 h S fr ws f W F nx m1 m2 o (R.less (by omega) (by omega)) K⟩
variable {Ij k:Nat}{a b:Sm}
theorem zEu{e:Th.Ex}(h:Is (.op Ij k a b) e):e.kind=5\/e.kind=6\/e.kind=7:=by
 rcases h.2 with h|h|h
 ·exact .inr (.inl h.1)
 ·exact .inr (.inr h.1)
 ·exact .inl h.1
variable {N n:Nat} {fnl:List Nm}
theorem zCH{e:Th.Ex}(hx:Is x e)(hw:Wrk x (30*x.ct) (work (free (N+1)) fnl n e 0) 0 0):Hld N fnl n x e:=fun b m hb=>by
 cases x with
 |num v=>
  obtain ⟨h1,h2⟩:=hx;refine ⟨.num v,[],?_,by simp,fun hf cd Q fns _ _ _=>⟨.num v,.inl ⟨v,rfl,rfl⟩,fun h st f W F nx bl is R k=>zEk R k⟩⟩;unfold zaI;rw[if_neg (by omega),if_pos h1,h2];simp[Bs.push]
 |op Ij k p q=>
  have hk:=zEu hx;obtain ⟨is,bl,w1,w2,w0,w3⟩:=hw ⟨b.blocks,[],[]⟩ Sl.nil;simp only[zzb]at w1;refine ⟨.close (b.blocks++bl).length 0,bl++[(0,is)],?_,by simpa using w0,fun hf cd Q fns g1 g2 g3=>⟨.clo (b.blocks++bl).length [],.inr ⟨_,is,rfl,?_,fun h st f W F nx o R K=>?_⟩,fun h st f W F nx JB JJ R k=>?_⟩⟩
  ·unfold zaI zal Bs.zhD;rw[if_neg (by omega),if_neg (by omega),if_neg (by omega),zCs hb (fun n=>zCd hx)];simp only[List.reverse_nil,zzm];rw[if_neg (by omega),if_neg (by omega)];simp only[w1,w2,Bs.zak,List.reverse_nil,List.foldl_nil,Bs.drop,Bs.push];simp
  ·have:=g3.right.one
   rwa [zyT]
  ·have:=w3 hf cd Q fns g1 g2 g3.left h st [] [] f W F nx rfl rfl o (by simpa using R) (by simpa using K);simpa using this
  ·have:=g3.right.one;have hl:=(zyL.1 this).1;exact zC8 (by have:=g1.1;rw[zyT];omega) (R.less (by omega) (by omega)) k
variable {h:List Nd}
theorem zD9.le{hf:Nat}{Q:Except Nat Ma->Prop}{v:Option Int}{L:Nat}{h1:List Nd}{st:List Wd}{fns:List Nat}{W F:Nat}(K:zD9 hf cd Q v L h st fns W F)(hl:h.length<=h1.length)(hs:∀ i,i<L->h1[i]?=h[i]?):zD9 hf cd Q v L h1 st fns W F:=
 ⟨K.1,fun n hn h' a f nx bl p1 p2 p3 R=>K.2 n hn h' a f nx bl (zyR hl p1) (fun i hi=>by rw[p2 i hi,hs i hi]) p3 R⟩
theorem FO.app(o:FO h)(nd:Nd):FO (h++[nd]):=fun k hk=>by
 have:=o.len;rw[zzc (by omega)];exact o k hk
theorem zCN(T l:List Wd)(i:Nat):(T++l)[((T.length:Int)).toNat+i]?=l[i]?:=by rw[zy2,zy3 (by omega),Nat.add_sub_cancel_left]
variable {j:Nat}
theorem zEa{hf:Nat}{Q:Except Nat Ma->Prop}{fns:List Nat}{S fr ws:List Wd}{f W F L p q fa fb c d:Nat}{nx:Int}{np nq:Nd}{y:Sm}(hj:j<4)(hb:cd[fb]?=some (2,[.push 0,.wait c,.push 1,.zci 3,.enter]))(hc:cd[c]?=some (2,[.zbX,.push 1,.wait d,.push 0,.zci 3,.enter]))(hd:cd[d]?=some (2,[.comp ⟨(Sm.sign j).toArray⟩,.enter]))(aN:cd.length<1000000000)(h4:4<=L)(hp:L<=p)(hq:L<=q)(Iu:p≠q)(IU:h[p]?=some np)(hx:HdN hf cd Q fns np x)(IC:h[q]?=some nq)(hy:HdN hf cd Q fns nq y)(oV:h[fa]?=some (.clo fb []))(o:FO h)(R:Res hf Q h (S++fr++(ws++[.ad q,.ad p,.mk 2 2,.ad fa])) fns f (W+30*x.ct+30*y.ct+13) (F+30*x.ct+30*y.ct+16))(K:zD9 hf cd Q (Sm.op Ij j x y).val L h (S++ws) fns W F):Ex hf cd Q [.zci (ws.length+4),.enter] ⟨h,S++fr++(ws++[.ad q,.ad p,.mk 2 2,.ad fa]),fns,f,nx,S.length⟩:=by
 have IP:c<cd.length:=(zyL.1 hc).1;refine zCk (F:=F+30*x.ct+30*y.ct+15) (by simp) R fun f R=>?_
 rw[show S++(ws++[Wd.ad q,.ad p,.mk 2 2,.ad fa])=(S++ws++[.ad q,.ad p,.mk 2 2])++[.ad fa] by simp]at R ⊢;refine zDh (F:=F+30*x.ct+30*y.ct+14) oV (zEg hb) R fun f R=>?_
 rw[show (S++ws++[Wd.ad q,.ad p,.mk 2 2])++[.ad fa]=S++ws++[.ad q,.ad p,.mk 2 2,.ad fa] by simp]at R ⊢;refine zGA oV (zEg hb) (R.less (by omega) (zyN _)) (zB4 hb ?_);have aA:((S++ws++[Wd.ad q,.ad p]).length:Int)-(2:Nat)=((S++ws).length:Int):=by simp only[zyT,zy8,zzm];omega
 rw[aA];have R1:Res hf Q h (S++ws++[.ad q,.ad p]) fns f (W+30*x.ct+30*y.ct+15) (F+30*x.ct+30*y.ct+14):=R.stack (fun c hc=>by simp at hc ⊢;rcases hc with hc|hc|hc|hc <;> simp[hc]) (by simp;omega);refine zCn (x:=.ad q) (W:=W+30*x.ct+30*y.ct+14) (F:=F+30*x.ct+30*y.ct+13) (by omega) (by rw[zCN];rfl) R1 fun f R=>?_
 refine zCw (W:=W+30*x.ct+30*y.ct+13) (F:=F+30*x.ct+30*y.ct+12) (by omega) R fun f R=>?_
 refine zCn (x:=.ad p) (W:=W+30*x.ct+30*y.ct+12) (F:=F+30*x.ct+30*y.ct+11) (by omega) (by rw[zzk,zzk,zCN];rfl) R fun f R=>?_
 rw[show S++ws++[Wd.ad q,.ad p]++[.ad q]++[.mk 1 c]++[.ad p]=S++ws++[.ad q,.ad p]++[.ad q,.mk 1 c,.ad p] by simp]at R ⊢;refine zCk (F:=F+30*x.ct+30*y.ct+10) rfl R fun f R=>?_
 exact two hj hc hd aN h4 hp hq Iu IU hx IC hy o (R.less (by omega) (by omega)) K
variable {N n:Nat} {fnl:List Nm}
abbrev dB (k:Nat):Nat × List Ins:=(2,[.comp ⟨(Sm.sign k).toArray⟩,.enter])
abbrev rB (d:Nat) (ir:List Ins):Nat × List Ins:=(1,.zbX::.push 0::.wait d::ir)
theorem zEe{v:Nat}{e:Th.Ex}(hx:Is (.num v) e):Wrk (.num v) 30 (work (free (N+1)) fnl (n+1) e below) below m:=fun b hb=>by
 obtain ⟨h1,h2⟩:=hx;refine ⟨[.num v,.zci (below+1),.enter],[],?_,?_,by simp,fun hf cd Q fns _ _ _ h S fr ws f W F nx m1 m2 o R K=>?_⟩
 ·rw[work,if_neg (by omega),if_neg (by omega),if_neg (by omega),if_neg (by omega)];unfold zaI;rw[if_neg (by omega),if_pos h1,h2];simp[Bs.ends,Bs.write,Bs.push]
 ·rw[work,if_neg (by omega),if_neg (by omega),if_neg (by omega),if_neg (by omega)];unfold zaI;rw[if_neg (by omega),if_pos h1];simp[Bs.ends,Bs.write,Bs.push]
 ·refine zEk (W:=W) (F:=F+2) (R.less (by omega) (by omega)) fun f R=>?_
  rw[zzk (S++fr)]at R ⊢;refine zCk (F:=F+1) (by simp[m2]) R fun f R=>?_
  rw[<-zzk]at R ⊢;have gU:(h++[Nd.num (v:Int)])[h.length]?=some (.num v):=by simp
  exact zCq gU R fun f R=>K.2 v rfl _ _ _ _ _ (by simp) (fun i hi=>zzc hi) gU R
variable {l r:Th.Ex}
theorem zEB{e:Th.Ex}(hk:k<4)(h6:e.kind=6)(ht:e.tok.s=Sm.sign k)(dQ:e.kids=[l,r])(hr:Is b r)(wl:Wrk a (30*a.ct) (work (free (N+1)) fnl n l (below+1)) (below+1) (m+1))(wr:Wrk b (30*b.ct) (work (free (N+1)) fnl n r 2) 2 3):Wrk (.op Ij k a b) (30*(a.ct+b.ct+1)) (work (free (N+1)) fnl (n+1) e below) below m:=fun b0 hb=>by
 have hh:zai b0.zac (free (N+1) r)=[]:=zCs hb (fun n=>zCd hr);rw[zh3 fnl n below b0 h6 dQ,hh];obtain ⟨ir,br,r1,r2,r0,r3⟩:=wr (zbo b0 [] e) ⟨rfl,by simp[zbo,zE6]⟩;have hB:(Bs.zak fnl ⟨(work (free (N+1)) fnl n r 2 (zbo b0 [] e)).blocks++[(([]:List Nm).length+1,(work (free (N+1)) fnl n r 2 (zbo b0 [] e)).code)],b0.zac,b0.code⟩ []).push (.wait (work (free (N+1)) fnl n r 2 (zbo b0 [] e)).blocks.length) =
   ⟨b0.blocks++([dB k]++br++[rB b0.blocks.length ir]),b0.zac++[[]],b0.code++[.wait (b0.blocks++([dB k]++br)).length]⟩:=by
  rw[r1,r2];simp[Bs.zak,Bs.push,zbo,ht]
 rw[hB];obtain ⟨il,Jb,l1,l2,l0,l3⟩:=wl ⟨b0.blocks++([dB k]++br++[rB b0.blocks.length ir]),b0.zac++[[]],b0.code++[.wait (b0.blocks++([dB k]++br)).length]⟩ (hb.snoc zE6);refine ⟨.wait (b0.blocks++([dB k]++br)).length::il,([dB k]++br++[rB b0.blocks.length ir])++Jb,?_,?_,by simp;omega,fun hf cd Q fns g1 g2 g3 h S fr ws f W F nx m1 m2 o R K=>?_⟩
 ·refine l1.trans ?_;simp
 ·refine l2.trans ?_;simp
 ·have hd:=g3.left.left.left.one;have AJ:=g3.left.right.one;have gi:=g3.right;rw[<-zyT]at AJ gi;have Jn:=g3.left.left.right;have rY:=(zyL.1 hd).1;have bd:=(zyL.1 AJ).1;have hg:=g1.1;rw[zEp]at K;generalize (b0.blocks++([dB k]++br)).length=c at *;refine zCw (W:=W+30*b.ct+20+30*a.ct) (F:=F+30*b.ct+20+30*a.ct) (by omega) (R.less (by omega) (by omega)) fun f R=>?_
  rw[zzk (S++fr)]at R ⊢;refine l3 hf cd Q fns g1 g2 gi h S fr (ws++[.mk 1 c]) f _ _ nx (by simp;omega) (by simp[m2]) o R ⟨fun e=>K.1 (by rw[e]),fun n1 v1 h1 a1 f nx bl p1 p2 p3 R=>?_⟩;rw[show S++(ws++[Wd.mk 1 c])++[.ad a1]=(S++ws)++[.mk 1 c,.ad a1] by simp]at R ⊢;generalize S++ws=T at *;refine zCG (by omega) (zB4 AJ ?_);have aA:((T++[Wd.ad a1]).length:Int)-(1:Nat)=(T.length:Int):=by simp only[zyT,zy8,zzm];omega
  rw[aA];have R1:Res hf Q h1 (T++[.ad a1]) fns f (W+30*b.ct+20) (F+30*b.ct+20):=R.stack (fun c hc=>by simp at hc ⊢;rcases hc with hc|hc <;> simp[hc]) (by simp);refine zDu (F:=F+30*b.ct+19) p3 R1 fun f R=>?_
  refine zCn (x:=.ad a1) (W:=W+30*b.ct+19) (F:=F+30*b.ct+18) (by omega) (by rw[zCN];rfl) R fun f R=>?_
  refine zCw (W:=W+30*b.ct+18) (F:=F+30*b.ct+17) (by omega) R fun f R=>?_
  rw[show T++[Wd.ad a1]++[.ad a1]++[.mk 1 b0.blocks.length]=T++[.ad a1]++[.ad a1,.mk 1 b0.blocks.length] by simp]at R ⊢;have o1:FO h1:=fun j hj=>by rw[p2 j (by have:=o.len;omega)];exact o j hj
  refine r3 hf cd Q fns g1 g2 (by rw[show (zbo b0 [] e).blocks.length=b0.blocks.length+1 by simp[zbo]];exact Jn) h1 T [.ad a1] [.ad a1,.mk 1 b0.blocks.length] f (W+10) (F+10) _ rfl rfl o1 (R.less (by omega) (by omega)) ⟨fun e=>K.1 (by rw[v1,e]),fun n2 v2 h2 a2 f nx bl q1 q2 q3 R=>?_⟩;rw[show T++[Wd.ad a1,.mk 1 b0.blocks.length]++[.ad a2]=(T++[.ad a1])++[.mk 1 b0.blocks.length,.ad a2] by simp]at R ⊢;refine zCG (by omega) (zB4 hd ?_);have R2:Res hf Q h2 (T++[.ad a1]++[.ad a2]) fns f (W+10) (F+10):=R.stack (fun c hc=>by simp at hc ⊢;rcases hc with hc|hc|hc <;> simp[hc]) (by simp);rw[show T++[Wd.ad a1]++[.ad a2]=T++[.ad a1,.ad a2] by simp]at R2 ⊢;rw[v1,v2]at K;have mQ:h2[a1]?=some (.num n1):=by rw[q2 a1 (zyL.1 p3).1];exact p3
  refine zDt (W:=W+9) (F:=F+9) hk mQ q3 R2 K.1 fun n hn f R=>?_
  have gU:(h2++[Nd.num n])[h2.length]?=some (.num n):=by simp
  refine zCq (W:=W) (F:=F) gU (R.less (by omega) (by omega)) fun f R=>K.2 n hn _ _ _ _ _ (by simp;omega) (fun i hi=>?_) gU R
  rw[zzc (by omega),q2 i (by omega),p2 i hi]
variable {N n:Nat} {fnl:List Nm}
theorem zED(s:List Nm):za9 (s++[[112],[113]]) [112]=some s.length/\za9 (s++[[112],[113]]) [113]=some (s.length+1):=by
 have e1:(s++[[112],[113]])[s.length+1]?=some [113]:=by simp
 have e0:(s++[[112],[113]])[s.length]?=some [112]:=by simp
 have hl:(s++[[112],[113]]).length=s.length+1+1:=by simp
 unfold za9;rw[hl];refine ⟨?_,?_⟩
 ·rw[zcq,e1,if_neg (by decide),zcq,e0,if_pos rfl]
 ·rw[zcq,e1,if_pos rfl]
theorem zDl(s:List Nm):Go.splice (s++[[]]++[[]]) s.length [[112],[113]]=s++[[112],[113]]:=by
 unfold Go.splice;simp
abbrev cB (d:Nat):Nat × List Ins:=(2,[.zbX,.push 1,.wait d,.push 0,.zci 3,.enter])
theorem zDc{e d:Th.Ex}(hk:k<4)(h7:e.kind=7)(hn:Th.texts e.names=[[112],[113]])(dQ:e.kids=[d,l,r])(B:Bd k d)(hl:Hld N fnl (n+2) a l)(hr:Hld N fnl (n+2) b r):Wrk (.op Ij k a b) (30*a.ct+30*b.ct+28) (zkD (work (free (N+1)) fnl (n+2)) (free (N+1)) fnl e) 0 m:=fun b0 hb=>by
 obtain ⟨i1,b1,w1,w0,w2⟩:=hl b0 m hb;obtain ⟨i2,b2,v1,v0,v2⟩:=hr ⟨b0.blocks++b1,b0.zac++[[]],b0.code++[i1]⟩ (m+1) (hb.snoc zE6);have hm:b0.zac.length=m:=hb.1;obtain ⟨s1,s2⟩:=zED b0.zac;rw[zei dQ];have hin:zdq (work (free (N+1)) fnl (n+2)) (free (N+1)) fnl e [l,r] b0=⟨b0.blocks++b1++b2,b0.zac++[[112],[113]],b0.code++[i1]++[i2]⟩:=by
  unfold zdq;rw[if_neg (by omega)];simp only[zz2,List.foldl_nil];rw[w1,v1,hn];simp only;rw[zDl]
 rw[hin];obtain ⟨c1,c2⟩:=zCP (N:=N) (n:=n) (fns:=fnl) (b:=⟨b0.blocks++b1++b2,b0.zac++[[112],[113]],b0.code++[i1]++[i2]⟩) B s1 s2;refine ⟨i1::i2::[.push (b0.zac.length+1),.wait ((b0.blocks++b1++b2).length+1),.push b0.zac.length,.zci 3,.enter],b1++b2++([dB k]++[cB (b0.blocks++b1++b2).length]),?_,?_,by simp;omega,fun hf cd Q fns g1 g2 g3 h S fr ws f W F nx m1 m2 o R K=>?_⟩
 ·rw[c1];simp
 ·rw[c2];simp
 ·have ew:ws=[]:=zzn.1 m2;subst ew;obtain ⟨n1,x1,y1⟩:=w2 hf cd Q fns g1 g2 g3.left.left;obtain ⟨n2,x2,y2⟩:=v2 hf cd Q fns g1 g2 (by have:=g3.left.right;rwa [<-zyT]at this);have gd:=g3.right.left.one;have gc:=g3.right.right.one;have el:b0.blocks.length+(b1++b2).length=(b0.blocks++b1++b2).length:=by simp
  rw[el]at gd gc;have aN:=(zyL.1 gc).1;have hg:=g1.1;simp only[zzS]at R K ⊢;rw[hm];have ak:fr.length=m:=by simpa using m1
  generalize (b0.blocks++b1++b2).length=db at *;refine y1 h (S++fr) f (W+30*a.ct+30*b.ct+25) (F+30*a.ct+30*b.ct+25) nx S.length _ (R.less (by omega) (by omega)) fun f R=>?_
  refine y2 (h++[n1]) (S++fr++[.ad h.length]) f (W+30*a.ct+30*b.ct+20) (F+30*a.ct+30*b.ct+20) nx S.length _ (R.less (by omega) (by omega)) fun f R=>?_
  have hp:(h++[n1]++[n2])[h.length]?=some n1:=by simp
  have hq:(h++[n1]++[n2])[(h++[n1]).length]?=some n2:=by simp
  have p7:(h++[n1]).length=h.length+1:=by simp
  have ho:=(o.app n1).app n2;have K2:zD9 hf cd Q (Sm.op Ij k a b).val h.length (h++[n1]++[n2]) S fns W F:=K.le (by simp) (fun i hi=>by rw[zzk,zzc hi]);generalize (h++[n1]).length=q at *;generalize h++[n1]++[n2]=h2 at *;have e1:S++fr++[Wd.ad h.length]++[.ad q]=S++(fr++[.ad h.length,.ad q]):=by simp
  rw[e1]at R ⊢;have t1:(fr++[Wd.ad h.length,.ad q])[m+1]?=some (.ad q):=by rw[<-ak];simp
  have t0:(fr++[Wd.ad h.length,.ad q])[m]?=some (.ad h.length):=by rw[<-ak];simp
  have tl:(fr++[Wd.ad h.length,.ad q]).length=m+2:=by simp[ak]
  refine zCn (x:=.ad q) (W:=W+30*a.ct+30*b.ct+19) (F:=F+30*a.ct+30*b.ct+19) (by omega) (by rw[zCN];exact t1) R fun f R=>?_
  refine zCw (W:=W+30*a.ct+30*b.ct+18) (F:=F+30*a.ct+30*b.ct+18) (by omega) R fun f R=>?_
  refine zCn (x:=.ad h.length) (W:=W+30*a.ct+30*b.ct+17) (F:=F+30*a.ct+30*b.ct+17) (by omega) (by rw[zzk,zzk,zCN,zzc (by omega)];exact t0) R fun f R=>?_
  have e2:S++(fr++[Wd.ad h.length,.ad q])++[.ad q]++[.mk 1 (db+1)]++[.ad h.length]=S++(fr++[.ad h.length,.ad q])++[.ad q,.mk 1 (db+1),.ad h.length]:=by simp
  rw[e2]at R ⊢;refine zCk (F:=F+30*a.ct+30*b.ct+16) rfl R fun f R=>?_
  exact two hk gc gd hg o.len (zyN _) (by omega) (by omega) hp x1 hq x2 ho (R.less (by omega) (by omega)) K2
theorem zEc{e d:Th.Ex}(hx:Is (.op Ij k a b) e)(hk:k<4)(h7:e.kind=7)(hn:Th.texts e.names=[[112],[113]])(dQ:e.kids=[d,l,r])(B:Bd k d)(hl:Hld N fnl (n+2) a l)(hr:Hld N fnl (n+2) b r):Wrk (.op Ij k a b) (30*(a.ct+b.ct+1)) (work (free (N+1)) fnl (n+3) e below) below m:=by
 by_cases h0:below=0
 ·subst h0;have e1:work (free (N+1)) fnl (n+3) e 0=zkD (work (free (N+1)) fnl (n+2)) (free (N+1)) fnl e:=by
   funext b0
   rw[work,if_neg (by omega),if_neg (by omega),if_neg (by omega),if_pos (.inl h7),if_pos rfl]
  rw[e1];exact (zDc hk h7 hn dQ B hl hr).le (by omega)
 ·intro b0 hb;obtain ⟨is,bl,c1,c2,c0,c3⟩:=zDc (Ij:=Ij) (m:=0) hk h7 hn dQ B hl hr ⟨b0.blocks,[],[]⟩ Sl.nil;simp only[zzb]at c1 c2;have Jc:(bl++[(0,is)]).length+1<=30*(a.ct+b.ct+1):=by simp;omega
  rw[work,if_neg (by omega),if_neg (by omega),if_neg (by omega),if_pos (.inl h7),if_neg h0,zCs hb (fun n=>zCd hx)];refine ⟨[.zci below,.jump (b0.blocks++bl).length],bl++[(0,is)],?_,?_,Jc,fun hf cd Q fns g1 g2 g3 h S fr ws f W F nx m1 m2 o R K=>?_⟩
  ·simp[Bs.zak,Bs.zhD,Bs.ends,Bs.write,c1,c2]
  ·simp[Bs.zak,Bs.zhD,Bs.ends,Bs.write,c1,c2]
  ·have g:=g3.right.one;rw[<-zyT]at g;refine zCk (W:=W+(30*a.ct+30*b.ct+28)) (F:=F+(30*a.ct+30*b.ct+29)) m2 (R.less (by omega) (by omega)) fun f R=>?_
   refine zEs R fun f R=>zB4 g ?_
   have aA:((S++ws).length:Int)-(0:Nat)=((S++ws).length:Int):=by simp
   rw[aA];have:=c3 hf cd Q fns g1 g2 g3.left h (S++ws) [] [] f W F ((b0.blocks++bl).length:Nat) rfl rfl o (by simpa using R) (by simpa using K);simpa using this
theorem zDm{e f g:Th.Ex}(h2:e.kids=[f,r])(h3:f.kind=5)(h4:f.kids=[g,l])(hg:g.kind≠5):spread (n+2) e=(g,[l,r]):=by
 rw[spread,h2];simp only;rw[if_pos h3,spread,h4];simp only;rw[if_neg hg];rfl
theorem zDr{e f g:Th.Ex}(hk:k<4)(h5:e.kind=5)(h2:e.kids=[f,r])(h3:f.kind=5)(h4:f.kids=[g,l])(sw:fnl.idxOf (Sm.name k)=k)(hg:(g.kind=2/\g.tok.s=Sm.name k)\/(g.kind=4/\Th.texts g.names=[[112],[113]]/\∃ d,g.kids=[d]/\Bd k d))(hl:Hld N fnl (n+3) a l)(hr:Hld N fnl (n+3) b r):Wrk (.op Ij k a b) (30*(a.ct+b.ct+1)) (work (free (N+1)) fnl (n+4) e below) below m:=fun b0 hb=>by
 obtain ⟨i2,b2,v1,v0,v2⟩:=hr b0 m hb;obtain ⟨i1,b1,w1,w0,w2⟩:=hl ⟨b0.blocks++b2,b0.zac++[[]],b0.code++[i2]⟩ (m+1) (hb.snoc zE6);have hs:Sl (m+3) (b0.zac++[[]]++[[]]++[[]]):=((hb.snoc zE6).snoc zE6).snoc zE6;have ew:work (free (N+1)) fnl (n+4) e below b0=work (free (N+1)) fnl (n+3) g (below+3) ⟨b0.blocks++b2++b1,b0.zac++[[]]++[[]]++[[]],b0.code++[i2]++[i1]++[.zbF 2]⟩:=by
  rw[work,if_pos h5,zDm h2 h3 h4 (by omega)];simp only[List.reverse_cons,List.reverse_nil,zzb,zy7,zz2,List.foldl_nil];rw[v1,w1];rfl
 rw[ew];have main:∀ (hf:Nat) (cd:List (Nat × List Ins)) (Q:Except Nat Ma->Prop) (fns:List Nat) (fi:Ins) (fb c d:Nat),Good cd->FnA fns->zDp cd b0.blocks.length (b2++b1)->cd[fb]?=some (2,[.push 0,.wait c,.push 1,.zci 3,.enter])->cd[c]?=some (2,[.zbX,.push 1,.wait d,.push 0,.zci 3,.enter])->cd[d]?=some (2,[.comp ⟨(Sm.sign k).toArray⟩,.enter]) ->
   (∀ (h:List Nd) (st:List Wd) (f W F:Nat) (nx bl:Int) (is:List Ins),FO h->Res hf Q h st fns f (W+3) (F+1)->(∀ (h':List Nd) (fa f:Nat),h.length<=h'.length->(∀ i,i<h.length->h'[i]?=h[i]?)->h'[fa]?=some (.clo fb [])->Res hf Q h' (st++[.ad fa]) fns f W F->Ex hf cd Q is ⟨h',st++[.ad fa],fns,f,nx,bl⟩)->Ex hf cd Q (fi::is) ⟨h,st,fns,f,nx,bl⟩) ->
   zDq hf cd Q fns (.op Ij k a b) (30*(a.ct+b.ct+1)) [i2,i1,.zbF 2,fi,.zci (below+4),.enter] m below:=by
  intro hf cd Q fns fi fb c d g1 g2 g3 Jm hc hd hfi h S fr ws f W F nx m1 m2 o R K;obtain ⟨n2,x2,y2⟩:=v2 hf cd Q fns g1 g2 g3.left;obtain ⟨n1,x1,y1⟩:=w2 hf cd Q fns g1 g2 (by have:=g3.right;rwa [<-zyT]at this);refine y2 h (S++fr++ws) f (W+30*a.ct+30*b.ct+27) (F+30*a.ct+30*b.ct+29) nx S.length _ (R.less (by omega) (by omega)) fun f R=>?_
  refine y1 (h++[n2]) (S++fr++ws++[.ad h.length]) f (W+30*a.ct+30*b.ct+24) (F+30*a.ct+30*b.ct+28) nx S.length _ R fun f R=>?_
  refine zDw (W:=W+30*a.ct+30*b.ct+23) (F:=F+30*a.ct+30*b.ct+27) (by omega) R fun f R=>?_
  refine hfi (h++[n2]++[n1]) _ f (W+30*a.ct+30*b.ct+20) (F+30*a.ct+30*b.ct+26) nx S.length _ ((o.app n2).app n1) R fun h' fa f p1 p2 p3 R=>?_
  have hq:h'[h.length]?=some n2:=by rw[p2 _ (by simp)];simp
  have hp:h'[(h++[n2]).length]?=some n1:=by rw[p2 _ (by simp)];simp
  have gK:(h++[n2]).length=h.length+1:=by simp
  have ho:FO h':=fun j hj=>by rw[p2 j (by have:=o.len;simp;omega)];exact (o.app n2).app n1 j hj
  have K2:zD9 hf cd Q (Sm.op Ij k a b).val h.length h' (S++ws) fns W F:=K.le (by simp at p1;omega) (fun i hi=>by rw[p2 i (by simp;omega),zzk,zzc hi]);generalize (h++[n2]).length=p at *;rw[show S++fr++ws++[Wd.ad h.length]++[.ad p]++[.mk 2 2]++[.ad fa]=S++fr++(ws++[.ad h.length,.ad p,.mk 2 2,.ad fa]) by simp]at R ⊢;rw[<-m2];exact zEa hk Jm hc hd g1.1 o.len (by omega) (zyN _) (by omega) hp x1 hq x2 p3 ho (R.less (by omega) (by omega)) K2
 rcases hg with ⟨k1,k2⟩|⟨k1,k2,d,k3,k4⟩
 ·rw[zD8 k1,k2,zEi (zD2 hs hk),sw];refine ⟨[i2,i1,.zbF 2,.zcW k,.zci (below+4),.enter],b2++b1,by simp[Bs.ends,Bs.write],by simp[Bs.ends,Bs.write],by simp;omega,fun hf cd Q fns g1 g2 g3=>?_⟩;obtain ⟨c,d,q1,q2,q3⟩:=g1.2 k hk;exact main hf cd Q fns (.zcW k) k c d g1 g2 g3 q1 q2 q3 fun h st f W F nx bl is o R kk=>zDv (g2 k hk) (R.less (by omega) (zyN _)) fun f R=>kk h k f (zyN _) (fun _ _=>rfl) (o k hk) R
 ·have ak:∀ n∈free (N+1) g,n∈zFv:=fun n hx=>by
   obtain ⟨M,hx,hm⟩:=zEl k1 k3 hx;rw[k2]at hm;rcases zCU k4 hx with rfl|rfl
   ·exact absurd (by simp) hm
   ·exact absurd (by simp) hm
  obtain ⟨c1,c2⟩:=zCP (N:=N) (n:=n) (fns:=fnl) (b:=⟨b0.blocks++b2++b1,[[113],[112]],[]⟩) (ip:=1) (iq:=0) k4 (by show za9 [[113],[112]] [112]=some 1;decide) (by show za9 [[113],[112]] [113]=some 0;decide);have eh:work (free (N+1)) fnl (n+3) g (below+3) ⟨b0.blocks++b2++b1,b0.zac++[[]]++[[]]++[[]],b0.code++[i2]++[i1]++[.zbF 2]⟩=⟨b0.blocks++b2++b1++[dB k,cB (b0.blocks++b2++b1).length]++[(2,[.push 0,.wait ((b0.blocks++b2++b1).length+1),.push 1,.zci 3,.enter])],b0.zac++[[]]++[[]]++[[]]++[[]],b0.code++[i2]++[i1]++[.zbF 2]++[.close ((b0.blocks++b2++b1).length+2) 0]++[.zci (below+4)]++[.enter]⟩:=by
   rw[work,if_neg (by omega),if_neg (by omega),if_neg (by omega),if_neg (by omega)];unfold zaI zal Bs.zhD;rw[if_neg (by omega),if_neg (by omega),if_neg (by omega),zCs hs ak,k2,k3];simp only[List.reverse_cons,List.reverse_nil,zzb,zy7];rw[if_pos k1];simp only[c1,c2,Bs.zak,List.reverse_nil,List.foldl_nil,Bs.drop,Bs.push,Bs.ends,Bs.write];simp;refine ⟨?_,by omega⟩;rw[zy9 (by simp)];simp
  rw[eh];refine ⟨[i2,i1,.zbF 2,.close ((b0.blocks++b2++b1).length+2) 0,.zci (below+4),.enter],b2++b1++([dB k]++[cB (b0.blocks++b2++b1).length]++[(2,[.push 0,.wait ((b0.blocks++b2++b1).length+1),.push 1,.zci 3,.enter])]),by simp,by simp,by simp;omega,fun hf cd Q fns g1 g2 g3=>?_⟩;have gd:=g3.right.left.left.one;have gc:=g3.right.left.right.one;have el:b0.blocks.length+(b2++b1).length=(b0.blocks++b2++b1).length:=by simp
  have gf:cd[b0.blocks.length+(b2++b1).length+2]?=some (2,[.push 0,.wait ((b0.blocks++b2++b1).length+1),.push 1,.zci 3,.enter]):=g3.right.right.one;rw[el]at gd gc gf;have bZ:=(zyL.1 gf).1;have hg:=g1.1;exact main hf cd Q fns _ _ _ _ g1 g2 g3.left gf gc gd fun h st f W F nx bl is o R kk=>zC8 (by omega) (R.less (by omega) (zyN _)) fun f R=>kk _ _ f (by simp) (fun i hi=>zzc hi) (by simp) R
theorem code(sw:∀ k,k<4->fnl.idxOf (Sm.name k)=k):∀ (x:Sm) (n below m:Nat) (e:Th.Ex),Is x e->4*x.ct<=n->Wrk x (30*x.ct) (work (free (N+1)) fnl n e below) below m
 |.num v,n,below,m,e,hx,hn=>by
  obtain ⟨n,rfl⟩:∃ k,n=k+1:=⟨n-1,by simp[Sm.ct]at hn;omega⟩;exact zEe hx
 |.op Ij k a b,n,below,m,e,hx,hn=>by
  have pa:=zC6 a;have pb:=zC6 b;simp only[Sm.ct]at hn;obtain ⟨n,rfl⟩:∃ k,n=k+4:=⟨n-4,by omega⟩;have ij:=hx;obtain ⟨hk,h⟩:=hx;rcases h with ⟨h1,h2,l,r,h3,h4,h5⟩|⟨h1,h2,d,l,r,h3,h4,h5,h6⟩|⟨h1,f,g,l,r,h2,h3,h4,h5,h6,h7⟩
  ·exact zEB hk h1 h2 h3 h5 (code sw a _ _ _ l h4 (by omega)) (code sw b _ _ _ r h5 (by omega))
  ·exact zEc (n:=n+1) ij hk h1 h2 h3 h4 (zCH h5 (code sw a _ _ _ l h5 (by omega))) (zCH h6 (code sw b _ _ _ r h6 (by omega)))
  ·exact zDr hk h1 h2 h3 h4 (sw k hk) h7 (zCH h5 (code sw a _ _ _ l h5 (by omega))) (zCH h6 (code sw b _ _ _ r h6 (by omega)))
end Sg
end Ab
end Go.Proofs.YtgahgkddaljmkaaGreatDoor
