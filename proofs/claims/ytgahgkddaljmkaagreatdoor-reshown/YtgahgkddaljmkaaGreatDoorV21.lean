/- RsE .. Show15 -/
import Derived.Test.YtgahgkddaljmkaaGreatDoorV20
set_option maxRecDepth 100000
set_option maxHeartbeats 4000000
namespace Go.Proofs.YtgahgkddaljmkaaGreatDoor
open Tryz Th Cp
section
namespace Th
def sg (s:List UInt8):Tok:=⟨4,s,0⟩
def wT (e:Ex) (l:Nat) (T:List Tok):List Tok:=if level e<l then sg [40]::(T++[sg [41]])else T
def bT (f:Ex->List Tok):List Tok->List Ex->List Tok
 |[t],[e]=>zT t::sg [61]::f e
 |t::l,e::es=>zT t::sg [61]::(f e++sg [59]::bT f l es)
 |_,_=>[]
def aT (f:Ex->List Tok) (g:Ex->Bool):List (Nat × List Tok)->List Ex->List Tok
 |[a],[e]=>sg [60]::⟨3,Lib.decDigits a.1,0⟩::sg [62]::(a.2.map zT++sg [45,62]::f e)
 |a::l,e::es=>sg [60]::⟨3,Lib.decDigits a.1,0⟩::sg [62]::(a.2.map zT++sg [45,62]::((if g e then sg [40]::(f e++[sg [41]])else f e)++sg [59]::aT f g l es))
 |_,_=>[]
def tT:Nat->Ex->List Tok
 |0,_=>[]
 |n+1,e=>
  if e.kind=1 then[⟨3,Lib.decDigits e.n,0⟩]
  else if e.kind=2 then[zT e.tok]
  else if e.kind=3 then[sg [123],⟨3,Lib.decDigits e.tag,0⟩,sg [44],⟨3,Lib.decDigits e.arity,0⟩,sg [125]]
  else if e.kind=4 then sg [92]::(e.names.map zT++sg [46]::tT n (e.kids.headD Mw))
  else if e.kind=5 then wT (e.kids.headD Mw) 4 (tT n (e.kids.headD Mw))++wT (e.kids.tail.headD Mw) 5 (tT n (e.kids.tail.headD Mw))
  else if e.kind=6 then wT (e.kids.headD Mw) (max (level e) 2) (tT n (e.kids.headD Mw))++sg e.tok.s::wT (e.kids.tail.headD Mw) (level e+1) (tT n (e.kids.tail.headD Mw))
  else if e.kind=9 then sg OK::(tT n (e.kids.headD Mw)++sg Nt::aT (tT n) (ends n) e.nA e.kids.tail)
  else sg Ol::((if e.kind=8 then[sg Na]else[])++(bT (tT n) e.names e.kids.tail++sg Mx::tT n (e.kids.headD Mw)))
variable {n d:Nat} {e a b:Ex} {R:List Tok}
theorem Va:tT (n+1) (M5 a b)=wT a 4 (tT n a)++wT b 5 (tT n b):=rfl
theorem Ur(t:Tok):tT (n+1) (JF t a b)=wT a (max (level (JF t a b)) 2) (tT n a)++sg t.s::wT b (level (JF t a b)+1) (tT n b):=rfl
theorem Te(h:Wf (n+1) (M5 a b)):Wf n a/\Wf n b:=by
 rcases h with⟨h,_⟩|h|⟨h,_⟩|⟨h,_⟩|⟨_,x,y,h1,h2,h3⟩|⟨h,_⟩|⟨h|h,_⟩|⟨h,_⟩
 all_goals first|(cases h;done)|(cases h1;exact⟨h2,h3⟩)
variable {t:Tok}
theorem Rt(h:Wf (n+1) (JF t a b)):Wf n a/\Wf n b:=by
 rcases h with⟨h,_⟩|h|⟨h,_⟩|⟨h,_⟩|⟨h,_⟩|⟨_,_,x,y,h1,h2,h3⟩|⟨h|h,_⟩|⟨h,_⟩
 all_goals first|(cases h;done)|(cases h1;exact⟨h2,h3⟩)
theorem Q5(l:Nat)(T:List Tok):T.length<=(wT e l T).length:=by
 unfold wT;split
 .simp;omega
 .exact qP _
theorem P3:∀{n:Nat}{e:Ex},Mk e->Wf n e->1<=(tT n e).length
 |0,_,_,w=>w.elim
 |n+1,_,.num _,_=>by simp[tT,mkNum]
 |n+1,_,.name _,_=>by simp[tT,NY]
 |n+1,_,.make _ _ _,_=>by simp[tT,Oe]
 |n+1,_,.fn _ _ _,_=>by simp[tT,mkFun]
 |n+1,_,.call (a:=a) ha _,w=>by have h1:=P3 ha (Te w).1;have h2:=Q5 (e:=a) 4 (tT n a);rw[Va,IJ];omega
 |n+1,_,.op _ _ _ _,_=>by rw[Ur,IJ,Kh];omega
 |n+1,_,.lt (r:=r) _ _ _ _ _,_=>by cases r<;>simp[tT,mkLet]
 |n+1,_,.cs _ _ _ _ _,_=>by simp[tT,mkCase]
def TM (R:List Tok):Prop:=∃t R',R=t::R'/\t.k=4/\(t.s=[41]\/t.s=[59]\/t.s=Mx\/t.s=Nt)
theorem TM.facts(h:TM R):NN ⟨R,none⟩=false/\St.is [42] ⟨R,none⟩=false/\St.is [47] ⟨R,none⟩=false/\St.is [43] ⟨R,none⟩=false/\St.is [45] ⟨R,none⟩=false/\St.is [61,61] ⟨R,none⟩=false/\St.is [60] ⟨R,none⟩=false:=by obtain⟨t,R',rfl,h1,h2⟩:=h;rcases h2 with h2|h2|h2|h2<;>simp[NN,St.is,St.kind,St.hd,h1,h2,Mx,Nt]
def XE (n:Nat) (e:Ex):Prop:=∀d o R,(tT n e).length<d->TM R->(ends n e=true->NL o ⟨R,none⟩=false)->Mn d o ⟨tT n e++R,none⟩=some (zE e,⟨R,none⟩)
def CE (n:Nat) (e:Ex):Prop:=∀d,(wT e 4 (tT n e)).length<=d->∃c,c<(tT n e).length/\∀K R,c<=K->OZ (Mn d) K ⟨wT e 4 (tT n e)++R,none⟩=Of (Mn d) (K-c) (zE e) ⟨R,none⟩
def PE (n:Nat) (e:Ex):Prop:=∀d,(wT e 3 (tT n e)).length<=d->∃c,c<(tT n e).length/\∀K R,(tT n e).length<=K->NN ⟨R,none⟩=false->Px (Mn d) K ⟨wT e 3 (tT n e)++R,none⟩=Nk (OZ (Mn d) K) [42] [47] (K-c) (zE e) ⟨R,none⟩
def SE (n:Nat) (e:Ex):Prop:=∀d,(wT e 2 (tT n e)).length<=d->∃c,c<(tT n e).length/\∀K R,(tT n e).length<=K->NN ⟨R,none⟩=false->St.is [42] ⟨R,none⟩=false->St.is [47] ⟨R,none⟩=false->PD (Mn d) K ⟨wT e 2 (tT n e)++R,none⟩=Nk (Px (Mn d) K) [43] [45] (K-c) (zE e) ⟨R,none⟩
def Al (n:Nat) (P:Nat->Ex->Prop):Prop:=∀e,Mk e->Wf n e->P n e
theorem zMA(l:List UInt8)(c:UInt8):val (l++[c])=10*val l+(c.toNat-48):=by simp[val]
theorem zKv(v:Nat):val (Lib.decDigits v)=v:=by
 induction v using Nat.strongRecOn with
 |_ v ih=>
  by_cases h:v<10
  .rw[Lib.decDigits_one h];simp[val];omega
  .rw[Lib.decDigits,dif_neg h,zMA,ih (v/10) (by omega)];simp;omega
theorem ZX(t:Tok)(a b:Ex):1<=level (JF t a b)/\level (JF t a b)<=3:=by
 show 1<=(if(6:Nat)=5 then 4 else if(6:Nat)=6 then(if t.s=[42]\/t.s=[47]then 3 else if t.s=[43]\/t.s=[45]then 2 else 1)else if 6<=3 then 5 else 0)/\(if(6:Nat)=5 then 4 else if(6:Nat)=6 then(if t.s=[42]\/t.s=[47]then 3 else if t.s=[43]\/t.s=[45]then 2 else 1)else if 6<=3 then 5 else 0)<=3;rw[qj,nB rfl];split
 .omega
 .split<;>omega
theorem zNb{l:Nat}(hx:level e<l->XE n e)(he:Mk e)(w:Wf n e)(hd:(wT e l (tT n e)).length<=d)(hl:level e<l\/level e=5)(R:List Tok):NN ⟨wT e l (tT n e)++R,none⟩=true/\NZ (Mn d) ⟨wT e l (tT n e)++R,none⟩=some (zE e,⟨R,none⟩):=by
 by_cases aj:level e<l
 .have e1:wT e l (tT n e)++R=sg [40]::(tT n e++sg [41]::R):=by unfold wT;rw[nB aj];simp
  rw[e1];refine⟨by simp[NN,St.is,St.kind,St.hd,sg],?_⟩;unfold NZ;rw[pL (by simp[St.kind,St.hd,sg]),pL (by simp[St.kind,St.hd,sg]),pL (by simp[St.is,St.hd,sg]),nB (by simp[St.is,St.hd,sg])];have:Mn d false ⟨tT n e++sg [41]::R,none⟩=some (zE e,⟨sg [41]::R,none⟩):=hx aj d false _ (by unfold wT at hd;rw[nB aj]at hd;simp at hd;omega) ⟨_,_,rfl,rfl,.inl rfl⟩ (λ_=>by simp[NL,St.is,St.hd,sg]);show(Mn d false ⟨tT n e++sg [41]::R,none⟩).bind _=_;rw[this];simp[want,St.is,St.hd,St.qM,sg]
 .have e1:wT e l (tT n e)=tT n e:=by unfold wT;rw[pL aj]
  rw[e1];have DN:level e=5:=by omega
  obtain⟨n,rfl⟩:∃k,n=k+1:=by cases n with|zero=>exact w.elim|succ k=>exact⟨k,rfl⟩
  cases he with
  |num hv=>exact⟨by simp[tT,mkNum,NN,St.kind,St.hd],by rw[zMP];simp[tT,mkNum,NZ,St.kind,St.hd,St.qM,zKv]⟩
  |name ht=>exact⟨by simp[tT,NY,NN,St.kind,St.hd,zT,ht.1],by rw[zMb];simp[tT,NY,NZ,St.kind,St.hd,St.qM,zT,ht.1]⟩
  |make h1 h2 h3=>exact⟨by simp[tT,Oe,NN,St.kind,St.is,St.hd,sg],by rw[zMa];simp[tT,Oe,NZ,PN,Kv,want,St.kind,St.is,St.hd,St.qM,sg,zKv,h1,h2,h3]⟩
  |fn _ _ _=>cases DN
  |call _ _=>cases DN
  |@op t a b _ _ _ _=>exact absurd DN (by have:=ZX t a b;omega)
  |@lt r l ps b _ _ _ _ _=>cases r<;>exact absurd DN (by simp[level,mkLet])
  |cs _ _ _ _ _=>cases DN
theorem zK1(e:Ex):level e<=5:=by
 unfold level;split
 .omega
 .split
  .split
   .omega
   .split<;>omega
  .split<;>omega
theorem zNl{l l':Nat}(T:List Tok)(h:level e<l↔level e<l':=by omega):wT e l T=wT e l' T:=by
 unfold wT;by_cases hl:level e<l
 .rw[nB hl,nB (h.1 hl)]
 .rw[pL hl,pL (λx=>hl (h.2 x))]
theorem zJr{ex:Rd}{k:Nat}(h:NN ⟨R,none⟩=false)(hk:1<=k:=by omega):Of ex k e ⟨R,none⟩=some (e,⟨R,none⟩):=by obtain⟨k,rfl⟩:∃j,k=j+1:=⟨k-1,by omega⟩;rw[Of,h];rfl
theorem Up{sub:St->Option (Ex × St)}{x y:List UInt8}{k:Nat}(hx:St.is x ⟨R,none⟩=false)(hy:St.is y ⟨R,none⟩=false)(hk:1<=k:=by omega):Nk sub x y k e ⟨R,none⟩=some (e,⟨R,none⟩):=by obtain⟨k,rfl⟩:∃j,k=j+1:=⟨k-1,by omega⟩;rw[Nk,hx,hy];rfl
theorem zLI(he:Mk e)(w:Wf (n+1) e)(hx:level e<4->XE (n+1) e)(cX:Al n XE)(hc:Al n CE):CE (n+1) e:=λd hd=>by
 by_cases h4:level e=4
 .cases he with
  |call ha hb=>
   rename_i a b;obtain⟨wa,wb⟩:=Te w;have la:=Q5 (e:=a) 4 (tT n a);have lb:=Q5 (e:=b) 5 (tT n b);have pb:=P3 hb wb;rw[show wT (M5 a b) 4 (tT (n+1) (M5 a b))=tT (n+1) (M5 a b)from pL (by rw[h4];omega),Va,IJ]at hd;obtain⟨c,c1,c2⟩:=hc a ha wa d (by omega);refine⟨c+1,by rw[Va,IJ];omega,λK R hK=>?_⟩;have e1:wT (M5 a b) 4 (tT (n+1) (M5 a b))++R=wT a 4 (tT n a)++(wT b 5 (tT n b)++R):=by rw[show wT (M5 a b) 4 (tT (n+1) (M5 a b))=tT (n+1) (M5 a b)from pL (by rw[h4];omega),Va,Np]
   rw[e1,c2 K _ (by omega)];obtain⟨a1,a2⟩:=zNb (l:=5) (λ_=>cX b hb wb) hb wb (show(wT b 5 (tT n b)).length<=d by omega) (by have:=zK1 b;omega) R;rw[show K-c=(K-(c+1))+1 by omega,Of,nB a1,a2,zL8];rfl
  |op _ _ _ _=>rename_i t a b _ _ _ _;exact absurd h4 (by have:=ZX t a b;omega)
  |lt _ _ _ _ _=>rename_i r _ _ _ _ _ _ _ _;exact absurd h4 (by cases r<;>simp[level,mkLet])
  |num _=>cases h4
  |name _=>cases h4
  |make _ _ _=>cases h4
  |fn _ _ _=>cases h4
  |cs _ _ _ _ _=>cases h4
 .have GH:=zK1 e;refine⟨0,P3 he w,λK R _=>?_⟩;obtain⟨_,a2⟩:=zNb (l:=4) hx he w hd (by omega) R;unfold OZ;rw[a2];rfl
theorem zNh{l:Nat}(h:level e=l)(hl:1<=l)(cW:l<=3)(he:Mk e):∃t a b,e=JF t a b/\t.k=4/\t.s∈MM/\Mk a/\Mk b:=by
 cases he with
 |op h1 h2 h3 h4=>exact⟨_,_,_,rfl,h1,h2,h3,h4⟩
 |lt _ _ _ _ _=>rename_i r _ _ _ _ _ _ _ _;exact absurd h (by cases r<;>simp[level,mkLet]<;>omega)
 |num _=>exact absurd h (by show¬5=l;omega)
 |name _=>exact absurd h (by show¬5=l;omega)
 |make _ _ _=>exact absurd h (by show¬5=l;omega)
 |fn _ _ _=>exact absurd h (by show¬0=l;omega)
 |cs _ _ _ _ _=>exact absurd h (by show¬0=l;omega)
 |call _ _=>exact absurd h (by show¬4=l;omega)
theorem zLp(h:level (JF t a b)=3):t.s=[42]\/t.s=[47]:=by
 show t.s=[42]\/t.s=[47];have h':(if t.s=[42]\/t.s=[47]then 3 else if t.s=[43]\/t.s=[45]then 2 else 1)=3:=h;split at h'
 .assumption
 .split at h'<;>omega
theorem zKA(h:level (JF t a b)=2):t.s=[43]\/t.s=[45]:=by
 have h':(if t.s=[42]\/t.s=[47]then 3 else if t.s=[43]\/t.s=[45]then 2 else 1)=2:=h;split at h'
 .omega
 .split at h'
  .assumption
  .omega
theorem ND(s x:List UInt8)(R:List Tok):St.is x ⟨sg s::R,none⟩=(s == x):=by simp[St.is,St.hd,sg]
theorem zJv{s:List UInt8}(R:List Tok)(h1:s≠[123])(h2:s≠[40]):NN ⟨sg s::R,none⟩=false:=by simp[NN,St.kind,St.is,St.hd,sg,h1,h2]
theorem TW(h:t.k=4):sg t.s=zT t:=by simp[sg,zT,h]
theorem zLZ(he:Mk e)(w:Wf (n+1) e)(hc:level e≠3->CE (n+1) e)(pU:Al n CE)(hp:Al n PE):PE (n+1) e:=λd hd=>by
 by_cases h3:level e=3
 .obtain⟨t,a,b,rfl,hk,_,ha,hb⟩:=zNh h3 (by omega) (by omega) he;obtain⟨wa,wb⟩:=Rt w;have la:=Q5 (e:=a) 3 (tT n a);have lb:=Q5 (e:=b) 4 (tT n b);have pa:=P3 ha wa;have eT:tT (n+1) (JF t a b)=wT a 3 (tT n a)++sg t.s::wT b 4 (tT n b):=by rw[Ur,h3];rfl
  rw[show wT (JF t a b) 3 (tT (n+1) (JF t a b))=tT (n+1) (JF t a b)from pL (by rw[h3];omega),eT,IJ,Kh]at hd;obtain⟨c,c1,c2⟩:=hp a ha wa d (by omega);obtain⟨c',LA,zs⟩:=pU b hb wb d (by omega);refine⟨c+1,by rw[eT,IJ,Kh];omega,λK R hK hR=>?_⟩;rw[eT,IJ,Kh]at hK;have hs:=zLp h3;have e1:wT (JF t a b) 3 (tT (n+1) (JF t a b))++R=wT a 3 (tT n a)++(sg t.s::(wT b 4 (tT n b)++R)):=by rw[show wT (JF t a b) 3 (tT (n+1) (JF t a b))=tT (n+1) (JF t a b)from pL (by rw[h3];omega),eT];simp
  rw[e1,c2 K _ (by omega) (zJv _ (by rcases hs with hs|hs<;>rw[hs]<;>decide) (by rcases hs with hs|hs<;>rw[hs]<;>decide))];rw[show K-c=(K-(c+1))+1 by omega,Nk,nB (by rw[ND,ND];rcases hs with hs|hs<;>rw[hs]<;>decide)];show(OZ (Mn d) K ⟨wT b 4 (tT n b)++R,none⟩).bind _=_;rw[zs K R (by omega),zJr hR,WI,<-TW hk];rfl
 .have e3:wT e 3 (tT (n+1) e)=wT e 4 (tT (n+1) e):=zNl _;obtain⟨c,c1,c2⟩:=hc h3 d (by rw[<-e3];exact hd);refine⟨0,P3 he w,λK R hK hR=>?_⟩;unfold Px;rw[e3,c2 K R (by omega),zJr hR];rfl
theorem zL3(he:Mk e)(w:Wf (n+1) e)(hp:level e≠2->PE (n+1) e)(xU:Al n PE)(bK:Al n SE):SE (n+1) e:=λd hd=>by
 by_cases h3:level e=2
 .obtain⟨t,a,b,rfl,hk,_,ha,hb⟩:=zNh h3 (by omega) (by omega) he;obtain⟨wa,wb⟩:=Rt w;have la:=Q5 (e:=a) 2 (tT n a);have lb:=Q5 (e:=b) 3 (tT n b);have pa:=P3 ha wa;have eT:tT (n+1) (JF t a b)=wT a 2 (tT n a)++sg t.s::wT b 3 (tT n b):=by rw[Ur,h3];rfl
  rw[show wT (JF t a b) 2 (tT (n+1) (JF t a b))=tT (n+1) (JF t a b)from pL (by rw[h3];omega),eT,IJ,Kh]at hd;obtain⟨c,c1,c2⟩:=bK a ha wa d (by omega);obtain⟨c',LA,zs⟩:=xU b hb wb d (by omega);refine⟨c+1,by rw[eT,IJ,Kh];omega,λK R hK hR Le Lf=>?_⟩;rw[eT,IJ,Kh]at hK;have hs:=zKA h3;have e1:wT (JF t a b) 2 (tT (n+1) (JF t a b))++R=wT a 2 (tT n a)++(sg t.s::(wT b 3 (tT n b)++R)):=by rw[show wT (JF t a b) 2 (tT (n+1) (JF t a b))=tT (n+1) (JF t a b)from pL (by rw[h3];omega),eT];simp
  rw[e1,c2 K _ (by omega) (zJv _ (by rcases hs with hs|hs<;>rw[hs]<;>decide) (by rcases hs with hs|hs<;>rw[hs]<;>decide)) (by rw[ND];rcases hs with hs|hs<;>rw[hs]<;>decide) (by rw[ND];rcases hs with hs|hs<;>rw[hs]<;>decide)];rw[show K-c=(K-(c+1))+1 by omega,Nk,nB (by rw[ND,ND];rcases hs with hs|hs<;>rw[hs]<;>decide)];show(Px (Mn d) K ⟨wT b 3 (tT n b)++R,none⟩).bind _=_;rw[zs K R (by omega) hR,Up Le Lf,WI,<-TW hk];rfl
 .have e3:wT e 2 (tT (n+1) e)=wT e 3 (tT (n+1) e):=zNl _;obtain⟨c,c1,c2⟩:=hp h3 d (by rw[<-e3];exact hd);refine⟨0,P3 he w,λK R hK hR Le Lf=>?_⟩;unfold PD;rw[e3,c2 K R (by omega) hR,Up Le Lf];rfl
variable {n d:Nat} {e a b:Ex} {R:List Tok}
def F0 (t:Tok):Prop:=t.s≠Ol/\t.s≠OK/\t.s≠[92]
theorem zMV(v:Nat):∀c∈Lib.decDigits v,c.toNat<=57:=by
 induction v using Nat.strongRecOn with
 |_ v ih=>
  by_cases h:v<10
  .rw[Lib.decDigits_one h];simp;omega
  .rw[Lib.decDigits,dif_neg h];intro c hc;rcases Ni.1 hc with hc|hc
   .exact ih (v/10) (by omega) c hc
   .rw[NA.1 hc];simp;omega
theorem zNd(v:Nat):F0 ⟨3,Lib.decDigits v,0⟩:=by
 have h:=zMV v;refine⟨λe=>?_,λe=>?_,λe=>?_⟩<;>(replace e:Lib.decDigits v=_:=e;rw[e]at h)
 .exact absurd (h 108 (by decide)) (by decide)
 .exact absurd (h 99 (by decide)) (by decide)
 .exact absurd (h 92 (by decide)) (by decide)
theorem Vb{s:List UInt8}(h:Word s):s≠Ol/\s≠OK/\s≠Na/\s≠[92]/\s≠[60]:=by obtain⟨c,r,rfl,h1,_,h3,_⟩:=h;simp only[SN,Im,kJ]at h3;obtain⟨⟨⟨⟨k1,k2⟩,k3⟩,k4⟩,k5⟩:=h3;refine⟨k1,k4,k2,λe=>?_,λe=>?_⟩<;>(cases e;exact absurd h1 (by decide))
theorem zLJ{l:Nat}(hl:1<=l)(hi:1<=level e->∃t T,tT n e=t::T/\F0 t):∃t T,wT e l (tT n e)=t::T/\F0 t:=by
 unfold wT;split
 .exact⟨_,_,rfl,by decide,by decide,by decide⟩
 .exact hi (by omega)
theorem XX:∀{n:Nat}{e:Ex},Mk e->Wf n e->1<=level e->∃t T,tT n e=t::T/\F0 t
 |0,_,_,w,_=>w.elim
 |n+1,_,.num _,_,_=>⟨_,_,rfl,zNd _⟩
 |n+1,_,.name h,_,_=>⟨_,_,rfl,(Vb h.2).1,(Vb h.2).2.1,(Vb h.2).2.2.2.1⟩
 |n+1,_,.make _ _ _,_,_=>⟨_,_,rfl,by decide,by decide,by decide⟩
 |n+1,_,.call (a:=a) (b:=b) ha _,w,_=>by obtain⟨t,T,h1,h2⟩:=zLJ (e:=a) (n:=n) (l:=4) (by omega) (XX ha (Te w).1);exact⟨t,T++wT b 5 (tT n b),by rw[Va,h1];rfl,h2⟩
 |n+1,_,.op (t:=s) (a:=a) (b:=b) _ _ ha _,w,_=>by obtain⟨t,T,h1,h2⟩:=zLJ (e:=a) (n:=n) (l:=max (level (JF s a b)) 2) (by omega) (XX ha (Rt w).1);exact⟨t,T++sg s.s::wT b (level (JF s a b)+1) (tT n b),by rw[Ur,h1];rfl,h2⟩
 |n+1,_,.fn _ _ _,_,h=>absurd h (by show¬1<=0;omega)
 |n+1,_,.lt (r:=r) _ _ _ _ _,_,h=>absurd h (by cases r<;>simp[level,mkLet])
 |n+1,_,.cs _ _ _ _ _,_,h=>absurd h (by show¬1<=0;omega)
theorem ZE{T:List Tok}(h:F0 t)(k:Nat)(o:Bool)(ex:Rd):NU ex k o ⟨t::T,none⟩=Py ex k ⟨t::T,none⟩:=by unfold NU;rw[pL (by simp[St.is,St.hd,h.1]),pL (by simp[St.is,St.hd,h.2.1]),pL (by simp[St.is,St.hd,h.2.2])]
theorem zKl{ex:Rd}{K:Nat}{st:St}(hR:TM R)(h:PD ex K st=some (e,⟨R,none⟩)):Py ex K st=some (e,⟨R,none⟩):=by obtain⟨_,_,_,_,_,f6,f7⟩:=hR.facts;unfold Py;rw[h];show(if _ then _ else _)=_;rw[f6,f7];rfl
theorem zM7(he:Mk e)(w:Wf n e)(hl:2<=level e)(hs:SE n e):XE n e:=λd o R hd hR _=>by
 obtain⟨d,rfl⟩:∃k,d=k+1:=⟨d-1,by omega⟩;obtain⟨t,T,h1,h2⟩:=XX he w (by omega);have e1:tT n e=wT e 2 (tT n e):=by unfold wT;rw[qj]
 obtain⟨f1,f2,f3,f4,f5,_,_⟩:=hR.facts;obtain⟨c,c1,c2⟩:=hs d (by rw[<-e1];omega);have:=c2 d R (by omega) f1 f2 f3;rw[<-e1,Up f4 f5]at this;show NU (Mn d) d o _=_;rw[h1,MP,ZE h2,<-MP,<-h1];exact zKl hR this
theorem zM8(he:Mk (JF t a b))(w:Wf (n+1) (JF t a b))(hl:level (JF t a b)=1)(hk:t.k=4)(h6:t.s∈MM)(ha:SE n a)(hb:SE n b):XE (n+1) (JF t a b):=λd o R hd hR _=>by
 obtain⟨d,rfl⟩:∃k,d=k+1:=⟨d-1,by omega⟩;obtain⟨s,T,h1,h2⟩:=XX he w (by omega);have eT:tT (n+1) (JF t a b)=wT a 2 (tT n a)++sg t.s::wT b 2 (tT n b):=by rw[Ur,hl];rfl
 have hs:t.s=[61,61]\/t.s=[60]:=by have h':(if t.s=[42]\/t.s=[47]then 3 else if t.s=[43]\/t.s=[45]then 2 else 1)=1:=hl;simp only[MM,Mz,PV,qT]at h6;rcases h6 with h|h|h|h|h|h<;>rw[h]at h'|-<;>revert h'<;>decide
 have la:=Q5 (e:=a) 2 (tT n a);have lb:=Q5 (e:=b) 2 (tT n b);have iH:=hd;rw[eT,IJ,Kh]at iH;obtain⟨f1,f2,f3,f4,f5,_,_⟩:=hR.facts;obtain⟨c,c1,c2⟩:=ha d (by omega);obtain⟨c',LA,zs⟩:=hb d (by omega);show NU (Mn d) d o _=_;rw[h1,MP,ZE h2,<-MP,<-h1,eT];rw[Np,MP];unfold Py;rw[c2 d _ (by omega) (zJv _ (by rcases hs with hs|hs<;>rw[hs]<;>decide) (by rcases hs with hs|hs<;>rw[hs]<;>decide)) (by rw[ND];rcases hs with hs|hs<;>rw[hs]<;>decide) (by rw[ND];rcases hs with hs|hs<;>rw[hs]<;>decide)];rw[Up (by rw[ND];rcases hs with hs|hs<;>rw[hs]<;>decide) (by rw[ND];rcases hs with hs|hs<;>rw[hs]<;>decide)];show(if _ then(PD (Mn d) d ⟨wT b 2 (tT n b)++R,none⟩).bind _ else _)=_;rw[nB (by rw[ND,ND];rcases hs with hs|hs<;>rw[hs]<;>decide),zs d R (by omega) f1 f2 f3,Up f4 f5,WI,<-TW hk];rfl
variable {l:List Tok}
theorem ZZ(h:∀t∈l,Ot t){s:Tok}(hs:s.k≠2)(R:List Tok):JR ⟨l.map zT++s::R,none⟩=(l.map zT,⟨s::R,none⟩):=by
 unfold JR;show(List.takeWhile _ _,St.mk (List.dropWhile _ _) none)=_
 induction l with
 |nil=>simp[hs]
 |cons t l ih=>
  have hk:(zT t).k=2:=(h t (by simp)).1;have:=ih λx hx=>h x (by simp[hx])
  simp only[O2,St.mk.injEq,and_true]at this;simp[hk,this.1,this.2]
theorem zNn(hl:l≠[])(h:∀t∈l,Ot t)(hb:XE n b):XE (n+1) (mkFun l b):=λd o R hd hR ho=>by
 obtain⟨d,rfl⟩:∃k,d=k+1:=⟨d-1,by omega⟩;have eT:tT (n+1) (mkFun l b)=sg [92]::(l.map zT++sg [46]::tT n b):=rfl;rw[eT]at hd|-;simp only[Kh,IJ]at hd;obtain⟨t,l,rfl⟩:∃t l',l=t::l':=by cases l with|nil=>exact absurd rfl hl|cons t l=>exact⟨t,l,rfl⟩
 have hx:=hb d o R (by omega) hR ho;have ht:(zT t).k=2:=(h t (by simp)).1;have hn:=ZZ (λx hx=>h x (l7 _ hx)) (s:=sg [46]) (by decide) (tT n b++R);show NU (Mn d) d o ⟨sg [92]::(((zT t)::l.map zT++sg [46]::tT n b)++R),none⟩=_;unfold NU;rw[pL (by rw[ND];decide),pL (by rw[ND];decide),nB (by rw[ND];decide)];unfold Qu;have e2:St.qM ⟨sg [92]::(((zT t)::l.map zT++sg [46]::tT n b)++R),none⟩=⟨zT t::(l.map zT++sg [46]::(tT n b++R)),none⟩:=by simp[St.qM]
 have e3:IG ⟨zT t::(l.map zT++sg [46]::(tT n b++R)),none⟩=(zT t,⟨l.map zT++sg [46]::(tT n b++R),none⟩):=by simp[IG,St.kind,St.hd,St.qM,ht]
 have e4:want [46] ⟨sg [46]::(tT n b++R),none⟩=⟨tT n b++R,none⟩:=by simp[want,St.is,St.hd,St.qM,sg]
 simp only[e2,e3,hn,e4,hx,NW,zMN,Ki]
theorem ZW(f:Ex->List Tok)(t:Tok)(e:Ex):∀(l:List Tok)(es:List Ex),∃T,bT f (t::l) (e::es)=zT t::T
 |[],[]=>⟨_,rfl⟩
 |[],_::_=>⟨_,rfl⟩
 |_::_,[]=>⟨_,rfl⟩
 |_::_,_::_=>⟨_,rfl⟩
theorem zLa(hx:Al n XE)(R:List Tok):∀(l:List Tok)(ps:List Ex)(k:Nat)(L:List Tok)(E:List Ex),l≠[]->ps.length=l.length->(∀t∈l,Ot t)->(∀p∈ps,Mk p/\Wf n p)->l.length<=k->(bT (tT n) l ps).length<=d ->
  NH (Mn d) k L E ⟨bT (tT n) l ps++sg Mx::R,none⟩=some (L++l.map zT,E++ps.map zE,⟨sg Mx::R,none⟩)
 |[],_,_,_,_,h,_,_,_,_,_=>absurd rfl h
 |[t],[e],k,L,E,_,_,ht,hp,hk,hd=>by
  obtain⟨k,rfl⟩:∃j,k=j+1:=⟨k-1,by simp at hk;omega⟩;have ht:(zT t).k=2:=(ht t (by simp)).1;have iH:(tT n e).length+2<=d:=by simpa[bT]using hd
  have h1:=hx e (hp e (by simp)).1 (hp e (by simp)).2 d true (sg Mx::R) (by omega) ⟨_,_,rfl,rfl,.inr (.inr (.inl rfl))⟩ (λ_=>by unfold NL;rw[ND];rfl);have e1:IG ⟨bT (tT n) [t] [e]++sg Mx::R,none⟩=(zT t,⟨sg [61]::(tT n e++sg Mx::R),none⟩):=by simp[bT,IG,St.kind,St.hd,St.qM,ht]
  have e2:want [61] ⟨sg [61]::(tT n e++sg Mx::R),none⟩=⟨tT n e++sg Mx::R,none⟩:=by simp[want,St.is,St.hd,St.qM,sg]
  rw[NH];simp only[e1,e2,h1,NW];rw[pL (by rw[ND];decide)];rfl
 |[_],[],_,_,_,_,h,_,_,_,_=>by simp at h
 |[_],_::_::_,_,_,_,_,h,_,_,_,_=>by simp at h
 |_::_::_,[],_,_,_,_,h,_,_,_,_=>by simp at h
 |_::_::_,[_],_,_,_,_,h,_,_,_,_=>by simp at h
 |t::u::l,e::f::es,k,L,E,_,hl,ht,hp,hk,hd=>by
  obtain⟨k,rfl⟩:∃j,k=j+1:=⟨k-1,by simp at hk;omega⟩;obtain⟨T,hT⟩:=ZW (tT n) u f l es;have eb:bT (tT n) (t::u::l) (e::f::es)=zT t::sg [61]::(tT n e++sg [59]::bT (tT n) (u::l) (f::es)):=rfl;have ih:=zLa hx R (u::l) (f::es) k (L++[zT t]) (E++[zE e]) (by simp) (by simpa using hl) (λx h=>ht x (l7 _ h)) (λx h=>hp x (l7 _ h)) (by simp at hk|-;omega) (by rw[eb]at hd;simp at hd;omega);rw[eb]at hd|-;have iH:(tT n e).length+2<=d:=by simp at hd;omega
  have hu:=(Vb (ht u (by simp)).2).2.2.2.2;have ht:(zT t).k=2:=(ht t (by simp)).1;have h1:=hx e (hp e (by simp)).1 (hp e (by simp)).2 d true (sg [59]::(bT (tT n) (u::l) (f::es)++sg Mx::R)) (by omega) ⟨_,_,rfl,rfl,.inr (.inl rfl)⟩ (λ_=>by unfold NL;rw[ND,hT];simp[QL,hu])
  have e1:IG ⟨zT t::sg [61]::(tT n e++sg [59]::bT (tT n) (u::l) (f::es))++sg Mx::R,none⟩=(zT t,⟨sg [61]::(tT n e++sg [59]::(bT (tT n) (u::l) (f::es)++sg Mx::R)),none⟩):=by simp[IG,St.kind,St.hd,St.qM,ht]
  have e2:∀X,want [61] ⟨sg [61]::X,none⟩=⟨X,none⟩:=by simp[want,St.is,St.hd,St.qM,sg]
  rw[NH];simp only[e1,e2,h1,NW];rw[nB (by rw[ND];decide)];show NH (Mn d) k _ _ ⟨bT (tT n) (u::l) (f::es)++sg Mx::R,none⟩=_;rw[ih];simp
theorem zLG(f:Ex->List Tok):∀(l:List Tok)(es:List Ex),es.length=l.length->l.length<=(bT f l es).length
 |[],_,_=>by simp
 |[_],[_],_=>by simp[bT]
 |t::u::l,e::g::es,h=>by have:=zLG f (u::l) (g::es) (by simpa using h);rw[show bT f (t::u::l) (e::g::es)=zT t::sg [61]::(f e++sg [59]::bT f (u::l) (g::es))from rfl];simp at this|-;omega
 |[_],[],h=>by simp at h
 |[_],_::_::_,h=>by simp at h
 |_::_::_,[],h=>by simp at h
 |_::_::_,[_],h=>by simp at h
variable {ps:List Ex}
theorem zNo{r:Bool}(hx:Al n XE)(hl:l≠[])(hn:ps.length=l.length)(ht:∀t∈l,Ot t)(hp:∀p∈ps,Mk p/\Wf n p)(hb:Mk b)(wb:Wf n b):XE (n+1) (mkLet r l ps b):=λd o R hd hR ho=>by
 obtain⟨d,rfl⟩:∃k,d=k+1:=⟨d-1,by omega⟩;have eT:tT (n+1) (mkLet r l ps b)=sg Ol::((if r then[sg Na]else[])++(bT (tT n) l ps++sg Mx::tT n b)):=by cases r<;>rfl
 rw[eT]at hd|-;simp only[Kh,IJ]at hd;have cV:=zLG (tT n) l ps hn;have h1:=zLa (d:=d) hx (tT n b++R) l ps d [] [] hl hn ht hp (by omega) (by omega);have h2:=hx b hb wb d o R (by omega) hR (λh=>ho (by cases r<;>exact h));show NU (Mn d) d o ⟨sg Ol::(((if r then[sg Na]else[])++(bT (tT n) l ps++sg Mx::tT n b))++R),none⟩=_;unfold NU;rw[nB (by rw[ND];decide)];have e1:St.qM ⟨sg Ol::(((if r then[sg Na]else[])++(bT (tT n) l ps++sg Mx::tT n b))++R),none⟩=⟨(if r then[sg Na]else[])++(bT (tT n) l ps++sg Mx::(tT n b++R)),none⟩:=by simp[St.qM]
 rw[e1];have e2:St.is Na ⟨(if r then[sg Na]else[])++(bT (tT n) l ps++sg Mx::(tT n b++R)),none⟩=r:=by
  cases r with
  |true=>exact ND _ _ _
  |false=>
   obtain⟨t,l,rfl⟩:∃t l',l=t::l':=by cases l with|nil=>exact absurd rfl hl|cons t l=>exact⟨t,l,rfl⟩
   obtain⟨p,ps,rfl⟩:∃p l',ps=p::l':=by cases ps with|nil=>simp at hn|cons t l=>exact⟨t,l,rfl⟩
   obtain⟨T,hT⟩:=ZW (tT n) t p l ps;rw[hT];have:=(Vb (ht t (by simp)).2).2.2.1;simp[St.is,St.hd,QL,this]
 have e3:(if r then St.qM ⟨(if r then[sg Na]else[])++(bT (tT n) l ps++sg Mx::(tT n b++R)),none⟩else⟨(if r then[sg Na]else[])++(bT (tT n) l ps++sg Mx::(tT n b++R)),none⟩)=⟨bT (tT n) l ps++sg Mx::(tT n b++R),none⟩:=by cases r<;>simp[St.qM]
 have e4:∀X,want Mx ⟨sg Mx::X,none⟩=⟨X,none⟩:=by simp[want,St.is,St.hd,St.qM,sg]
 unfold Qv;simp only[e2];rw[e3,h1];simp only[NW,e4,h2,zMO,MQ]
variable {n d:Nat} {e a b:Ex} {R:List Tok}
theorem zMx(hx:XE n e)(o:Bool)(hd:(tT n e).length+2<d)(hR:TM R):Mn d o ⟨sg [40]::(tT n e++sg [41]::R),none⟩=some (zE e,⟨R,none⟩):=by
 obtain⟨d,rfl⟩:∃k,d=k+1:=⟨d-1,by omega⟩;obtain⟨f1,f2,f3,f4,f5,_,_⟩:=hR.facts;show NU (Mn d) d o _=_;rw[ZE ⟨by decide,by decide,by decide⟩];refine zKl hR ?_;have h1:NZ (Mn d) ⟨sg [40]::(tT n e++sg [41]::R),none⟩=some (zE e,⟨R,none⟩):=by unfold NZ;rw[pL (by simp[St.kind,St.hd,sg]),pL (by simp[St.kind,St.hd,sg]),pL (by rw[ND];decide),nB (by rw[ND];decide)];show(Mn d false ⟨tT n e++sg [41]::R,none⟩).bind _=_;rw[hx d false _ (by omega) ⟨_,_,rfl,rfl,.inl rfl⟩ (λ_=>by unfold NL;rw[ND];rfl)];simp[want,St.is,St.hd,St.qM,sg]
 unfold PD Px OZ;rw[h1];simp only[NW];rw[zJr f1];simp only[NW];rw[Up f2 f3];simp only[NW];exact Up f4 f5
theorem zMJ{x:Nat × List Tok}{B:List Tok}(h:Q8 x)(ex:Rd)(o:Bool)(hb:ex o ⟨B++R,none⟩=some (e,⟨R,none⟩)):PC ex o ⟨sg [60]::⟨3,Lib.decDigits x.1,0⟩::sg [62]::(x.2.map zT++sg [45,62]::(B++R)),none⟩=some (zA x,e,⟨R,none⟩):=by
 have hn:=ZZ h.2.2 (s:=sg [45,62]) (by decide) (B++R);have e1:∀X,want [60] ⟨sg [60]::X,none⟩=⟨X,none⟩:=by simp[want,St.is,St.hd,St.qM,sg]
 have e2:∀X,want [62] ⟨sg [62]::X,none⟩=⟨X,none⟩:=by simp[want,St.is,St.hd,St.qM,sg]
 have e3:∀X,want [45,62] ⟨sg [45,62]::X,none⟩=⟨X,none⟩:=by simp[want,St.is,St.hd,St.qM,sg]
 have e4:∀X,Kv 1 99 ⟨⟨3,Lib.decDigits x.1,0⟩::X,none⟩=(x.1,⟨X,none⟩):=by simp[Kv,St.kind,St.hd,St.qM,zKv,h.1,h.2.1]
 unfold PC;simp only[e1,e2,e4,hn,e3,hb,NW];rfl
def dm (n:Nat) (e:Ex):List Tok:=if ends n e then sg [40]::(tT n e++[sg [41]])else tT n e
theorem zLD(x y:Nat × List Tok)(l:List (Nat × List Tok))(e f:Ex)(es:List Ex):aT (tT n) (ends n) (x::y::l) (e::f::es)=sg [60]::⟨3,Lib.decDigits x.1,0⟩::sg [62]::(x.2.map zT++sg [45,62]::(dm n e++sg [59]::aT (tT n) (ends n) (y::l) (f::es))):=rfl
theorem zKP(f:Ex->List Tok)(g:Ex->Bool)(x:Nat × List Tok)(e:Ex):∀(l:List (Nat × List Tok))(es:List Ex),∃T,aT f g (x::l) (e::es)=sg [60]::T
 |[],[]=>⟨_,rfl⟩
 |[],_::_=>⟨_,rfl⟩
 |_::_,[]=>⟨_,rfl⟩
 |_::_,_::_=>⟨_,rfl⟩
theorem zL1(hx:Al n XE)(o:Bool)(hR:TM R)(ho:NL o ⟨R,none⟩=false):∀(l:List (Nat × List Tok))(ps:List Ex)(k:Nat)(L:List (Nat × List Tok))(E:List Ex),l≠[]->ps.length=l.length->(∀t∈l,Q8 t)->(∀p∈ps,Mk p/\Wf n p)->l.length<=k->(aT (tT n) (ends n) l ps).length<=d ->
  NI (Mn d) o k L E ⟨aT (tT n) (ends n) l ps++R,none⟩=some (L++l.map zA,E++ps.map zE,⟨R,none⟩)
 |[],_,_,_,_,h,_,_,_,_,_=>absurd rfl h
 |[t],[e],k,L,E,_,_,ht,hp,hk,hd=>by
  obtain⟨k,rfl⟩:∃j,k=j+1:=⟨k-1,by simp at hk;omega⟩;have iH:(tT n e).length+2<=d:=by simp[aT]at hd;omega
  have h1:=hx e (hp e (by simp)).1 (hp e (by simp)).2 d o R (by omega) hR (λ_=>ho);have e1:aT (tT n) (ends n) [t] [e]++R=sg [60]::⟨3,Lib.decDigits t.1,0⟩::sg [62]::(t.2.map zT++sg [45,62]::(tT n e++R)):=by simp[aT]
  rw[NI,e1,zMJ (ht t (by simp)) _ o h1];simp only[NW];rw[ho];rfl
 |[_],[],_,_,_,_,h,_,_,_,_=>by simp at h
 |[_],_::_::_,_,_,_,_,h,_,_,_,_=>by simp at h
 |_::_::_,[],_,_,_,_,h,_,_,_,_=>by simp at h
 |_::_::_,[_],_,_,_,_,h,_,_,_,_=>by simp at h
 |t::u::l,e::f::es,k,L,E,_,hl,ht,hp,hk,hd=>by
  obtain⟨k,rfl⟩:∃j,k=j+1:=⟨k-1,by simp at hk;omega⟩;obtain⟨T,hT⟩:=zKP (tT n) (ends n) u f l es;have eb:=zLD (n:=n) t u l e f es;have ih:=zL1 hx o hR ho (u::l) (f::es) k (L++[zA t]) (E++[zE e]) (by simp) (by simpa using hl) (λx h=>ht x (l7 _ h)) (λx h=>hp x (l7 _ h)) (by simp at hk|-;omega) (by rw[eb]at hd;simp at hd;omega);rw[eb]at hd;have iH:(dm n e).length+3<=d:=by simp at hd;omega
  obtain⟨me,we⟩:=hp e (by simp);have hS:TM (sg [59]::(aT (tT n) (ends n) (u::l) (f::es)++R)):=⟨_,_,rfl,rfl,.inr (.inl rfl)⟩;have h1:Mn d o ⟨dm n e++sg [59]::(aT (tT n) (ends n) (u::l) (f::es)++R),none⟩=some (zE e,⟨sg [59]::(aT (tT n) (ends n) (u::l) (f::es)++R),none⟩):=by
   unfold dm at iH|-;by_cases he:ends n e=true
   .rw[nB he]at iH|-;have:=zMx (hx e me we) (d:=d) o (by simp at iH;omega) hS;simpa using this
   .rw[pL he]at iH|-;exact hx e me we d o _ (by omega) hS (λh=>absurd h he)
  have e1:aT (tT n) (ends n) (t::u::l) (e::f::es)++R=sg [60]::⟨3,Lib.decDigits t.1,0⟩::sg [62]::(t.2.map zT++sg [45,62]::(dm n e++sg [59]::(aT (tT n) (ends n) (u::l) (f::es)++R))):=by rw[eb];simp
  rw[NI,e1,zMJ (ht t (by simp)) _ o h1];simp only[NW];rw[nB (by unfold NL;rw[ND,hT];cases o<;>simp[sg])];show NI (Mn d) o k _ _ ⟨aT (tT n) (ends n) (u::l) (f::es)++R,none⟩=_;rw[ih];simp
theorem zLE(f:Ex->List Tok)(g:Ex->Bool):∀(l:List (Nat × List Tok))(es:List Ex),es.length=l.length->l.length<=(aT f g l es).length
 |[],_,_=>by simp
 |[_],[_],_=>by simp[aT]
 |t::u::l,e::h::es,hl=>by
  have:=zLE f g (u::l) (h::es) (by simpa using hl);rw[aT]
  .simp at this|-;omega
  .intro _ h;cases h
 |[_],[],h=>by simp at h
 |[_],_::_::_,h=>by simp at h
 |_::_::_,[],h=>by simp at h
 |_::_::_,[_],h=>by simp at h
theorem zM6{l:List (Nat × List Tok)}(hx:Al n XE)(hl:l≠[])(hn:ps.length=l.length)(ht:∀t∈l,Q8 t)(hp:∀p∈ps,Mk p/\Wf n p)(ha:Mk a)(wa:Wf n a):XE (n+1) (mkCase a l ps):=λd o R hd hR ho=>by
 obtain⟨d,rfl⟩:∃k,d=k+1:=⟨d-1,by omega⟩;have eT:tT (n+1) (mkCase a l ps)=sg OK::(tT n a++sg Nt::aT (tT n) (ends n) l ps):=rfl;rw[eT]at hd|-;simp only[Kh,IJ]at hd;have cV:=zLE (tT n) (ends n) l ps hn;have h1:=zL1 (d:=d) hx o hR (ho rfl) l ps d [] [] hl hn ht hp (by omega) (by omega);have h2:=hx a ha wa d false (sg Nt::(aT (tT n) (ends n) l ps++R)) (by omega) ⟨_,_,rfl,rfl,.inr (.inr (.inr rfl))⟩ (λ_=>by unfold NL;rw[ND];rfl);show NU (Mn d) d o ⟨sg OK::((tT n a++sg Nt::aT (tT n) (ends n) l ps)++R),none⟩=_;unfold NU;rw[pL (by rw[ND];decide),nB (by rw[ND];decide)];have e1:St.qM ⟨sg OK::((tT n a++sg Nt::aT (tT n) (ends n) l ps)++R),none⟩=⟨tT n a++sg Nt::(aT (tT n) (ends n) l ps++R),none⟩:=by simp[St.qM]
 have e4:∀X,want Nt ⟨sg Nt::X,none⟩=⟨X,none⟩:=by simp[want,St.is,St.hd,St.qM,sg]
 rw[e1];unfold Qr;simp only[h2,NW,e4,h1,zL9,MQ]
theorem Ya(h:Wf (n+1) (mkFun l b)):Wf n b:=by
 rcases h with⟨h,_⟩|h|⟨h,_⟩|⟨_,_,x,h1,h2⟩|⟨h,_⟩|⟨h,_⟩|⟨h|h,_⟩|⟨h,_⟩
 all_goals first|(cases h;done)|(cases h1;exact h2)
theorem WD{r:Bool}(h:Wf (n+1) (mkLet r l ps b)):(∀p∈ps,Wf n p)/\Wf n b:=by
 rcases h with⟨h,_⟩|h|⟨h,_⟩|⟨h,_⟩|⟨h,_⟩|⟨h,_⟩|⟨_,_,x,y,h1,_,h2,h3⟩|⟨h,_⟩
 all_goals first|(cases r<;>cases h;done)|(cases h1;exact⟨h2,h3⟩)
theorem Wu{l:List (Nat × List Tok)}(h:Wf (n+1) (mkCase a l ps)):(∀p∈ps,Wf n p)/\Wf n a:=by
 rcases h with⟨h,_⟩|h|⟨h,_⟩|⟨h,_⟩|⟨h,_⟩|⟨h,_⟩|⟨h|h,_⟩|⟨_,_,_,x,y,h1,_,h2,h3⟩
 all_goals first|(cases h;done)|(cases h1;exact⟨h2,h3⟩)
theorem zMI:∀n,Al n XE/\Al n CE/\Al n PE/\Al n SE
 |0=>⟨λ_ _ w=>w.elim,λ_ _ w=>w.elim,λ_ _ w=>w.elim,λ_ _ w=>w.elim⟩
 |n+1=>by
  obtain⟨x0,c0,p0,s0⟩:=zMI n;have low:∀e,Mk e->Wf (n+1) e->level e<2->XE (n+1) e:=λe he w hl=>by
   cases he with
   |num _=>exact absurd hl (by show¬5<2;omega)
   |name _=>exact absurd hl (by show¬5<2;omega)
   |make _ _ _=>exact absurd hl (by show¬5<2;omega)
   |call _ _=>exact absurd hl (by show¬4<2;omega)
   |@op t a b h1 h2 h3 h4=>exact zM8 (.op h1 h2 h3 h4) w (by have:=ZX t a b;omega) h1 h2 (s0 a h3 (Rt w).1) (s0 b h4 (Rt w).2)
   |fn h1 h2 h3=>exact zNn h1 h2 (x0 _ h3 (Ya w))
   |lt h1 h2 h3 h4 h5=>exact zNo x0 h1 h2 h3 (λp hp=>⟨h4 p hp,(WD w).1 p hp⟩) h5 (WD w).2
   |cs h1 h2 h3 h4 h5=>exact zM6 x0 h1 h2 h3 (λp hp=>⟨h4 p hp,(Wu w).1 p hp⟩) h5 (Wu w).2
  have Lr:∀e,Mk e->Wf (n+1) e->(level e<4->XE (n+1) e)->CE (n+1) e/\PE (n+1) e/\SE (n+1) e:=λe he w hx=>by have c:=zLI he w hx x0 c0;have p:=zLZ he w (λ_=>c) c0 p0;exact⟨c,p,zL3 he w (λ_=>p) p0 s0⟩
  have xs:∀e,Mk e->Wf (n+1) e->XE (n+1) e:=λe he w=>by
   by_cases h2:level e<2
   .exact low e he w h2
   .refine zM7 he w (by omega) (zL3 he w (λn2=>zLZ he w (λn3=>zLI he w (λh4=>?_) x0 c0) c0 p0) p0 s0);omega
  exact⟨xs,λe he w=>(Lr e he w λ_=>xs e he w).1,λe he w=>(Lr e he w λ_=>xs e he w).2.1,λe he w=>(Lr e he w λ_=>xs e he w).2.2⟩
end Th
end
section
open Go.RowKit
namespace Th
theorem zJk:∀(m:Nat)(e:Ex),Wf m e->∀k,m<=k->ends k e=ends m e
 |0,_,h,_,_=>h.elim
 |m+1,e,h,k,hk=>by
  obtain⟨k,rfl⟩:∃j,k=j+1:=⟨k-1,by omega⟩;have ih:=zJk m;rw[ends,ends];split
  .rfl
  .split
   .next h4=>
    rcases h with⟨h,_⟩|h|⟨h,_⟩|⟨h,_,b,h1,h2⟩|⟨h,_⟩|⟨h,_⟩|⟨h,_,b,parts,h1,_,_,h2⟩|⟨h,_⟩
    .omega
    .omega
    .omega
    .rw[h1];exact ih b h2 k (by omega)
    .omega
    .omega
    .rw[h1];exact ih b h2 k (by omega)
    .omega
   .rfl
theorem zId{f g:Ex->List UInt8}:∀(l:List Tok)(es:List Ex),(∀p∈es,f p=g p)->MS f l es=MS g l es
 |[],_,_=>by simp[MS]
 |_::_,[],_=>by simp[MS]
 |t::l,e::es,h=>by rw[MS,MS,h e (vW ..),zId l es (λp hp=>h p (l7 _ hp))]
theorem zIM{f g:Ex->List UInt8}{u v:Ex->Bool}:∀(l:List (Nat × List Tok))(es:List Ex),(∀p∈es,f p=g p/\u p=v p)->MT f u l es=MT g v l es
 |[],_,_=>by simp[MT]
 |_::_,[],_=>by simp[MT]
 |t::l,e::es,h=>by rw[MT,MT,(h e (vW ..)).1,(h e (vW ..)).2,zIM l es (λp hp=>h p (l7 _ hp))]
theorem zIz:∀(m:Nat)(e:Ex),Wf m e->∀k,m<=k->text k e=text m e
 |0,_,h,_,_=>h.elim
 |m+1,e,h,k,hk=>by
  obtain⟨k,rfl⟩:∃j,k=j+1:=⟨k-1,by omega⟩;have ih:=λp hp=>zIz m p hp k (by omega)
  have L6:=λp hp=>zJk m p hp k (by omega)
  rcases h with⟨h,_⟩|h|⟨h,_⟩|⟨h,_,b,h1,h2⟩|⟨h,a,b,h1,h2,h3⟩|⟨h,_,a,b,h1,h2,h3⟩|⟨h,_,b,parts,h1,_,h3,h2⟩|⟨h,_,_,b,ag,h1,_,h3,h2⟩
  .simp[text,h]
  .simp[text,h]
  .simp[text,h]
  .simp[text,h,h1,ih b h2]
  .simp[text,h,h1,ih a h2,ih b h3]
  .simp[text,h,h1,ih a h2,ih b h3]
  .have hc:=zId (f:=text k) (g:=text m) e.names parts (λp hp=>ih p (h3 p hp));rcases h with h|h<;>simp[text,h,h1,ih b h2,hc]
  .have hc:=zIM (f:=text k) (g:=text m) (u:=ends k) (v:=ends m) e.nA ag (λp hp=>⟨ih p (h3 p hp),L6 p (h3 p hp)⟩);simp[text,h,h1,ih b h2,hc]
theorem zIo{m:Nat}{l:List By}(h:∀x∈l,Wf m x.e):∀k,m<=k->Md k l=Md m l:=by
 intro k hk;have g:∀(l:List By)(a:List UInt8),(∀x∈l,Wf m x.e)->l.foldl (λs x=>s++Pa k x) a=l.foldl (λs x=>s++Pa m x) a:=by
  intro l
  induction l with
  |nil=>intro a _;rfl
  |cons x l ih=>intro a h;rw[NV,NV,ih _ (λy hy=>h y (l7 _ hy))];rw[Pa,Pa,zIz m x.e (h x (vW ..)) k hk]
 exact g l [] h
theorem XS:∀(k i:Nat),i<10 ^ (k+1)->(Lib.decDigits i).length<=k+1
 |0,i,h=>by rw[Lib.decDigits_one (by simpa using h)];simp
 |k+1,i,h=>by
  rw[Lib.decDigits];split
  .simp
  .have:=XS k (i/10) (by rw[Nat.pow_succ]at h;omega);simp only[IJ,Kh,My];omega
theorem zKZ{i:Nat}(h:i<=999999999):(Lib.itoa (i:Int)).length<=10:=by rw[Lib.itoa_nonneg];exact XS 9 i (by omega)
theorem ZN{i:Nat}(h:i<=99):(Lib.decDigits i).length<=3:=XS 2 i (by omega)
theorem XR(e:Ex)(k:Nat)(s:List UInt8):(within e k s).length<=s.length+2:=by
 unfold within;split
 .simp[paren]
 .omega
end Th
end
end Go.Proofs.YtgahgkddaljmkaaGreatDoor
