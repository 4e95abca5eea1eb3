/- Run2 .. LawK2 -/
import Derived.Test.YtgahgkddaljmkaaGreatDoorV16
set_option maxRecDepth 100000
set_option maxHeartbeats 4000000
namespace Go.Proofs.YtgahgkddaljmkaaGreatDoor
open Tryz Th Cp
section
open Go.RowKit
namespace Th
theorem zoX{wr tT:Ex->List (List UInt8)->List Nat}{P:Ex->Nat->Nat->Prop}{ar:List (List UInt8)}:∀(l:List Tok)(es:List Ex)(lo hi:Nat)(seen:List (List UInt8)),Oc P lo hi l es->(∀e∈es,∀lo hi ar,P e lo hi->wr e ar=tT e ar)->Nc wr ar seen l es=Nc tT ar seen l es
 |[],[],_,_,_,_,_=>rfl
 |[],_::_,_,_,_,h,_=>h.elim
 |_::_,[],_,_,_,h,_=>h.elim
 |t::l,e::es,lo,hi,seen,⟨_,m,h1,h2⟩,hw=>by rw[Nc,Nc,hw e (by simp) _ _ ar h1,zoX l es m hi _ h2 (λx hx=>hw x (by simp[hx]))]
theorem zqZ{wr tT:Ex->List (List UInt8)->List Nat}{P:Ex->Nat->Nat->Prop}{ar:List (List UInt8)}:∀(l:List (Nat × List Tok))(es:List Ex)(lo hi:Nat),OW P lo hi l es->(∀e∈es,∀lo hi ar,P e lo hi->wr e ar=tT e ar)->Oi wr ar l es=Oi tT ar l es
 |[],[],_,_,_,_=>rfl
 |[],_::_,_,_,h,_=>h.elim
 |_::_,[],_,_,h,_=>h.elim
 |t::l,e::es,lo,hi,⟨m1,m2,_,h1,h2⟩,hw=>by rw[Oi,Oi,hw e (by simp) _ _ _ h1,zqZ l es m2 hi h2 (λx hx=>hw x (by simp[hx]))]
theorem zo3:∀(N K:Nat)(e:Ex)(lo hi:Nat)(ar:List (List UInt8)),In N e lo hi->Dp K e->JL N e ar=JL K e ar
 |0,_,_,_,_,_,h,_=>h.elim
 |_+1,0,_,_,_,_,_,h=>h.elim
 |N+1,K+1,e,lo,hi,ar,h,hd=>by
  have ih:=λ(x:Ex)(hx:x∈e.kids)(lo hi:Nat)(ar:List (List UInt8))(eX:In N x lo hi)=>zo3 N K x lo hi ar eX (hd.2 x hx)
  rcases h.2 with hk|⟨hk,_⟩|⟨hk,b,m',k1,_,k2⟩|⟨hk,e1,e2,m',k1,k2,k3⟩|⟨hk,b,parts,m',k1,k2,k3⟩|⟨hk,b,ag,m',k1,k2,k3⟩
  .rw[Y9 hk,Y9 hk]
  .rw[zuX hk,zuX hk]
  .rw[zuV hk k1,zuV hk k1,ih b (by simp[k1]) _ _ _ k2]
  .rw[Za hk k1,Za hk k1,ih e1 (by simp[k1]) _ _ _ k2,ih e2 (by simp[k1]) _ _ _ k3]
  .rw[zuW hk k1,zuW hk k1,ih b (by simp[k1]) _ _ _ k3,zoX _ _ _ _ _ k2 (λx hx lo hi ar hP=>ih x (by simp[k1,hx]) lo hi ar hP)]
  .rw[zqa hk k1,zqa hk k1,ih b (by simp[k1]) _ _ _ k2,zqZ _ _ _ _ k3 (λx hx lo hi ar hP=>ih x (by simp[k1,hx]) lo hi ar hP)]
theorem zoZ{N K:Nat}{all:List (List UInt8)}:∀(l:List By)(lo hi:Nat)(seen:List (List UInt8)),Pv N lo hi l->(∀f∈l,Dp K f.e)->NM N all seen l=NM K all seen l
 |[],_,_,_,_,_=>rfl
 |x::l,lo,hi,seen,⟨_,m1,m2,_,h1,h2⟩,hd=>by rw[NM,NM,zo3 N K x.e _ _ _ h1 (hd x (by simp)),zoZ l _ _ _ h2 (λf hf=>hd f (by simp[hf]))]
end Th
def Y7 (s:ByteArray):Option (List By × St):=N7 (Mn 1000) 1000 [] ⟨Mr s,none⟩
theorem zjz(s:ByteArray)(hs:s.size<=600):∃q N,Y7 s=some q/\Plain s q N:=by
 have hr:Me 0 (s.size+1) (Mr s):=by have:=YJ (s.size+1) s.data.toList 0;rw[SX,On]at this;exact this
 have hl:=hr.len;obtain⟨q,h1,h2⟩:=zjA (zmC 1000) 1000 [] ⟨Mr s,none⟩ ⟨Mr s,none⟩ ⟨Step.refl _,λlo M hr _=>⟨0,lo,qP _,hr⟩⟩ (by show(Mr s).length+1<1000;omega) (by show(Mr s).length+1+1<1000;omega);by_cases hb:q.2.bad=none
 .obtain⟨N,m,i1,i2⟩:=h2.Oh 0 (s.size+1) hr hb;have:=i2.len;exact⟨q,N,h1,zev s hs,YX _ _ _,⟨1000,1000,by omega,by omega,h1⟩,λ_=>⟨0,m,i1,by omega⟩⟩
 .exact⟨q,0,h1,zev s hs,YX _ _ _,⟨1000,1000,by omega,by omega,h1⟩,λh=>absurd h hb⟩
variable {s:ByteArray}{q:List By × St}{N:Nat}
theorem zvZ(hs:s.size<=600)(hp:Plain s q N)(hb:q.2.bad=none):∀f∈q.1,Dp 1300 f.e:=by
 obtain⟨n,k,_,_,hq⟩:=hp.lines;have hl:=Th.UI (s.size+1) s.data.toList 0;have hz:s.data.toList.length=s.size:=by rw[SX];rfl
 rw[hz]at hl;have aj:(Mr s).length<=s.size+1:=hl;obtain⟨m,w1,w2⟩:=zgp k [] _ ⟨Mr s,none⟩ q hq (zqw hp.Kt) (λ_=>⟨0,by simp,0,by simp,by simp⟩) hb;simp only at w2;have dj:∀f∈q.1,Cp.wt m f.e<=1300:=λf hf=>by have:=zhY (λf=>Cp.wt m f.e+f.params.length+1) hf;omega
 exactλf hf=>(zxi (w1 f hf).1).le (dj f hf)
theorem zsu(hs:s.size<=600)(hp:Plain s q N):answer s.size q N=answer s.size q 1300:=by
 unfold answer;cases hb:q.2.bad with
 |some p=>rfl
 |none=>obtain⟨lo,hi,IU,_⟩:=hp.within hb;rw[zoZ q.1 lo hi [] IU (zvZ hs hp hb)]
def Qm (s:ByteArray) (heap fuel:Int) (r:Ab.TC) (c:Int):Prop:=∀w:World,
 Calls prog 25 #[.string s,.int .i64 heap,.int .i64 fuel] w λe w'=>e=.returned (.tuple #[QG r.1 r.2.1 r.2.2.1 r.2.2.2,.int .i64 c])/\Fr (λ_=>False) w w'
noncomputable abbrev Sj (l:List By) (heap fuel:Int):Nat->Option Ab.TC:=Ab.TF (Ov heap 262144/2) (Cp.program 1300 l) l.length ((JE l).idxOf Oy) (Ov fuel 4000000)
theorem zqm(x:Int)(m:Nat):Ov x m<=m:=by unfold Ov;omega
variable {heap fuel:Int}{r:Ab.TC}
theorem zjN(hs:s.size<=600)(hp:Plain s q N)(h0:(answer s.size q N).1=0)(h:Ab.VX (Sj q.1 heap fuel) r):Qm s heap fuel r 0:=by obtain⟨c,hc⟩:=h;have h1:=hc 0;rw[On]at h1;have:=zqm heap 262144;exactλw=>zwv hs hp h0 heap fuel (g:=c) (λpv=>Ab.zt2 (by omega) h1) w
theorem zkr{cd:List (Nat × List Ds)}(c:Nat):∀(g:Nat)(m:l0)(q:Except Nat l0),l0.work cd g m=some q->l0.work cd (g+c) m=some q
 |0,_,_,h=>by simp[l0.work]at h
 |g+1,m,q,h=>by
  rw[show g+1+c=(g+c)+1 by omega];rw[l0.work]at h|-;split at h
  .next h1=>rw[nB h1];exact h
  .next h1=>
   rw[pL h1];split at h
   .cases h
   .next h2=>
    rw[pL h2];split at h
    .cases h
    .split at h
     .cases h
     .exact h
     .next m2 hk=>exact zkr c g m2 q h
theorem zt1(pv:Value)(cd:List (Nat × List Ds))(nf main words fu g c:Nat)(r:Ab.TC)(h:runM pv cd nf main words fu g=some r):runM pv cd nf main words fu (g+c)=some r:=by
 unfold runM at h|-;split at h
 .cases h
 .exact h
 .next m1 hk=>
  split at h
  .cases h
  .next k hw=>rw[zkr c g m1 _ hw];exact h
  .next m2 hw=>rw[zkr c g m1 _ hw];exact h
theorem zod{words fu g:Nat}(hs:s.size<=600)(hq:Y7 s=some q)(h0:(answer s.size q 1300).1=0)(hr:runM (.int .i64 0) (Cp.program 1300 q.1) q.1.length ((JE q.1).idxOf Oy) words fu g=some r)(h4:r≠(4,0,0,0))(h5:r≠(5,0,0,0))(hw:words<=Ov heap 262144)(hf:fu<=Ov fuel 4000000):Qm s heap fuel r 0:=by
 obtain⟨q',N,e1,hp⟩:=zjz s hs;rw[hq]at e1;cases e1;rw[<-zsu hs hp]at h0;have ho:=YY hs hp h0;have:=zqm heap 262144;obtain⟨r',c,hc⟩:=Sf.zjK ho (words/2) fu;have h1:=Ab.zt2 (pv:=.int .i64 0) (words:=words) (by omega) (hc g);have nZ:r'=r:=by have h2:=hr;have h3:=zt1 (.int .i64 0) (Cp.program 1300 q.1) q.1.length ((JE q.1).idxOf Oy) words fu g c r h2;rw[h3]at h1;cases h1;rfl
 subst nZ;have h2:=Ab.zpM (hf:=words/2) (dr:=Ov heap 262144/2) (by omega) hf (hc 0) h4 h5;refine zjN hs hp h0 ⟨c,λk=>?_⟩;exact Ab.zpM (hf:=words/2) (dr:=Ov heap 262144/2) (by omega) hf (hc k) h4 h5
end
section
def Xy (s:ByteArray) (words fu g:Nat) (r:Ab.TC):Bool:=
 match Y7 s with
 |none=>false
 |some q=>(answer s.size q 1300).1 == 0 && (runM (.int .i64 0) (Cp.program 1300 q.1) q.1.length ((JE q.1).idxOf Oy) words fu g == some r)
variable {s:ByteArray}{r:Ab.TC}{heap fuel:Int}
theorem zhR{words fu g:Nat}(h:Xy s words fu g r=true)(hs:s.size<=600)(h4:r≠(4,0,0,0))(h5:r≠(5,0,0,0))(hw:words<=Ov heap 262144)(hf:fu<=Ov fuel 4000000:=by decide):Qm s heap fuel r 0:=by
 unfold Xy at h;split at h
 .cases h
 .next q hq=>rw[OR]at h;exact zod hs hq (by simpa using h.1) (by simpa using h.2) h4 h5 hw hf
def Zz:ByteArray:=⟨#[107,32,120,32,121,32,61,32,120,59,32,109,97,105,110,32,61,32,107,32,52,32,40,49,32,47,32,48,41,59]⟩
theorem zwz:Xy Zz 100 60 30 (1,4,0,0)=true:=by kernel_rfl
theorem zwA:Qm Zz 262144 4000000 (1,4,0,0) 0:=zhR zwz (by decide) (by decide) (by decide) (by decide)
def ZA:ByteArray:=⟨#[109,97,105,110,32,61,32,123,55,44,50,125,32,40,49,32,47,32,48,41,32,51,59]⟩
theorem zwB:Xy ZA 100 60 30 (2,0,7,2)=true:=by kernel_rfl
theorem zwC:Qm ZA 262144 4000000 (2,0,7,2) 0:=zhR zwB (by decide) (by decide) (by decide) (by decide)
def ZB:ByteArray:=⟨#[109,97,105,110,32,61,32,49,32,47,32,48,59]⟩
theorem zwD:Xy ZB 100 60 30 (3,0,0,0)=true:=by kernel_rfl
theorem zwE:Qm ZB 262144 4000000 (3,0,0,0) 0:=zhR zwD (by decide) (by decide) (by decide) (by decide)
end
section
open Go.RowKit
attribute [local go_sem ↓] Go.wp_at_zero Go.wp_at_succ
theorem zo2(w:World):
  Calls prog 20 #[] w λe w'=>e=.returned (.bool true)/\Fr (λ_=>False) w w':=by
 have H0:=zwA;have H1:=zwC;have H2:=zwE;unfold Qm Zz QG at H0;unfold Qm ZA QG at H1;unfold Qm ZB QG at H2;have K0:=eu H0;have K1:=eu H1;have K2:=eu H2;clear H0 H1 H2;go_enter func20,ntmps20;go_wp2_with fail;refine(K0.o _).mono ?_;rintro e w1⟨rfl,f1⟩;have F1:=eu (f1.alloc (.cells #[.int .i64 1,.int .i64 4,.int .i64 0,.int .i64 0] 35));have B1:=eu (gH w1 [.int .i64 1,.int .i64 4,.int .i64 0,.int .i64 0] 35);clear f1;go_wp2_with fail;refine(K1.o _).mono ?_;rintro e w2⟨rfl,f2⟩;have F2:=eu ((F1.o.trans f2).alloc (.cells #[.int .i64 2,.int .i64 0,.int .i64 7,.int .i64 2] 35));have B2:=eu (gH w2 [.int .i64 2,.int .i64 0,.int .i64 7,.int .i64 2] 35);have Bg:=eu (gd B1.o (f2.alloc (.cells #[.int .i64 2,.int .i64 0,.int .i64 7,.int .i64 2] 35)));clear f2;go_wp2_with fail;refine(K2.o _).mono ?_;rintro e w3⟨rfl,f3⟩;have F3:=eu ((F2.o.trans f3).alloc (.cells #[.int .i64 3,.int .i64 0,.int .i64 0,.int .i64 0] 35));have b3:=gH w3 [.int .i64 3,.int .i64 0,.int .i64 0,.int .i64 0] 35;have q8:=gd B2.o (f3.alloc (.cells #[.int .i64 3,.int .i64 0,.int .i64 0,.int .i64 0] 35));have qZ:=gd Bg.o (f3.alloc (.cells #[.int .i64 3,.int .i64 0,.int .i64 0,.int .i64 0] 35));have Qy:=qZ.cell 0;have Sg:=qZ.cell 1;have wj:=qZ.cell 2;have wo:=qZ.cell 3;have Dw:=q8.cell 0;have Dx:=q8.cell 1;have Dy:=q8.cell 2;have Dz:=q8.cell 3;have DA:=b3.cell 0;have DB:=b3.cell 1;have DC:=b3.cell 2;have DD:=b3.cell 3;simp at Qy Sg wj wo Dw Dx Dy Dz DA DB DC DD;clear f3 b3 q8 qZ;go_wp2;go_ret;exact⟨rfl,F3.o⟩
def Tx (c n:Int):Int:=(if c<0 then -(c+1)else c)%n
theorem zfA{c n:Int}(hn:0<n):0<=Tx c n/\Tx c n<n:=⟨Int.emod_nonneg _ (by omega),Int.emod_lt_of_pos _ hn⟩
theorem zfB{c n:Int}(h1:-9223372036854775808<=c)(h2:c<=9223372036854775807)(hn:0<n)(eY:n<=9223372036854775807)(w:World):
  Calls prog 23 #[.int .i64 c,.int .i64 n] w λe w'=>e=.returned (.int .i64 (Tx c n))/\w'=w:=by
 by_cases hc:c<0
 .go_enter func23,ntmps23;go_wp2;go_ret;refine⟨?_,rfl⟩;unfold Tx;rw[nB hc,<-Int.neg_tmod,Int.tmod_eq_emod_of_nonneg (by omega)];rfl
 .go_enter func23,ntmps23;go_wp2;go_ret;refine⟨?_,rfl⟩;unfold Tx;rw[qj];rfl
end
end Go.Proofs.YtgahgkddaljmkaaGreatDoor
