/- Mon1 .. LawK2 -/
import Derived.Test.YtgahgkddaljmkaaGreatDoorW38
set_option maxRecDepth 100000
set_option maxHeartbeats 4000000
namespace Go.Proofs.YtgahgkddaljmkaaGreatDoor
open Tryz
namespace Ab
def Ma.up (e:Nat) (A:Ma):Ma:={ A with fuel:=A.fuel+e }
def UpR (e:Nat) (a a':Option (Except Nat Ma)):Prop:=∀ q,a=some q ->
 match q with
 |.error j=>j=4\/j=5\/a'=some (.error j)
 |.ok B=>a'=some (.ok (B.up e))
theorem UpR.none{e:Nat}{a':Option (Except Nat Ma)}:UpR e none a':=fun _ h=>by cases h
variable {e:Nat}
theorem UpR.err{j:Nat}:UpR e (some (.error j)) (some (.error j)):=fun q h=>by cases h;exact .inr (.inr rfl)
variable {a':Option (Except Nat Ma)}
theorem UpR.out4 :UpR e (some (.error 4)) a':=fun q h=>by cases h;exact .inl rfl
theorem UpR.out5 :UpR e (some (.error 5)) a':=fun q h=>by cases h;exact .inr (.inl rfl)
theorem UpR.ok{B:Ma}:UpR e (okA B) (okA (B.up e)):=fun q h=>by cases h;rfl
variable {hf hf' e:Nat} {sl:List Nat}
variable {A:Ma}
theorem zfZ(hh:hf<=hf'){k:Nat}{f f':Ma->Option (Except Nat Ma)}(h:UpR e (f A) (f' (A.up e))):UpR e (ask hf k A f) (ask hf' k (A.up e) f'):=by
 unfold ask;by_cases h1:Fits hf A k
 ·have h2:Fits hf' (A.up e) k:=fun C c1 c2=>zyR (h1 C c1 c2) hh
  rw[if_pos h1,if_pos h2];exact h
 ·rw[if_neg h1];exact UpR.out4
theorem zcp(hh:hf<=hf')(v:Int):UpR e (A.zau hf v) ((A.up e).zau hf' v):=zfZ hh UpR.ok
theorem zqG(hh:hf<=hf')(nd:List Nat->Nd)(c:Nat):UpR e (A.mkN hf nd c) ((A.up e).mkN hf' nd c):=by
 refine zfZ hh ?_;show UpR e (match zlT A.st c with|none=>none|some fs=>okA _) (match zlT A.st c with|none=>none|some fs=>okA _);cases zlT A.st c with
 |none=>exact UpR.none
 |some fs=>exact UpR.ok
theorem zvX(hh:hf<=hf')(t c:Nat):UpR e (A.zn5 hf t c) ((A.up e).zn5 hf' t c):=by
 unfold Ma.zn5;split
 ·exact zqG hh _ _
 ·exact UpR.none
theorem zvW(hh:hf<=hf')(t c:Nat):UpR e (A.zpH hf t c) ((A.up e).zpH hf' t c):=by
 unfold Ma.zpH;split
 ·exact zqG hh _ _
 ·exact UpR.none
theorem zxo(hh:hf<=hf')(b c:Nat):UpR e (A.hold hf b c) ((A.up e).hold hf' b c):=by
 unfold Ma.hold;split
 ·exact zfZ hh UpR.ok
 ·exact UpR.none
theorem ziU(hh:hf<=hf'){w:Ma->Option Wd}(hw:w (A.up e)=w A):UpR e (A.zjF hf w) ((A.up e).zjF hf' w):=by
 refine zfZ hh ?_;rw[hw];cases w A with
 |none=>exact UpR.none
 |some x=>exact UpR.ok
theorem zxm(k c:Nat):UpR e (A.fill k c) ((A.up e).fill k c):=by
 unfold Ma.fill;rw[show (A.up e).slot k=A.slot k from rfl,show (A.up e).h=A.h from rfl,show (A.up e).st=A.st from rfl];split
 ·split
  ·split
   ·split
    ·exact UpR.none
    ·exact UpR.ok
   ·exact UpR.none
  ·exact UpR.none
 ·exact UpR.none
theorem zwi(c:Nat):UpR e ((A.zci c).map .ok) (((A.up e).zci c).map .ok):=by
 unfold Ma.zci;rw[show (A.up e).below=A.below from rfl,show (A.up e).st=A.st from rfl];split
 ·exact UpR.ok
 ·exact UpR.none
theorem zxc(hh:hf<=hf')(sg:ByteArray)(l r:Int):UpR e (A.calc hf sg l r) ((A.up e).calc hf' sg l r):=by
 unfold Ma.calc;split
 ·exact zcp hh _
 ·split
  ·exact zcp hh _
  ·split
   ·exact zcp hh _
   ·split
    ·split
     ·exact UpR.err
     ·exact zcp hh _
    ·split
     ·exact zqG hh _ _
     ·split
      ·exact zqG hh _ _
      ·exact UpR.none
theorem zrk(hh:hf<=hf')(sg:ByteArray):UpR e (A.compute hf sg) ((A.up e).compute hf' sg):=by
 unfold Ma.compute;rw[show (A.up e).zdW 0=A.zdW 0 from rfl,show (A.up e).zdW 1=A.zdW 1 from rfl];split
 ·exact UpR.none
 ·exact UpR.err
 ·split
  ·exact UpR.none
  ·exact UpR.err
  ·exact zxc hh (A:={ A with st:=zcE A.st 2 }) sg _ _
theorem zva(hh:hf<=hf')(a b:Nat)(fs:List Nat):UpR e (A.zdy hf a b fs) ((A.up e).zdy hf' a b fs):=zfZ hh UpR.ok
theorem zs3(hh:hf<=hf')(b c:Nat)(fs:List Nat):UpR e (A.extend hf b c fs) ((A.up e).extend hf' b c fs):=by
 refine zfZ hh ?_;split
 ·show UpR e (match zlT (zcE A.st 2) c with|none=>none|some fs=>okA _) (match zlT (zcE A.st 2) c with|none=>none|some fs=>okA _);cases zlT (zcE A.st 2) c with
  |none=>exact UpR.none
  |some fs=>exact UpR.ok
 ·exact UpR.none
theorem zxf(hh:hf<=hf')(b lk lf:Nat)(fs:List Nat):UpR e (A.call hf b lk lf fs) ((A.up e).call hf' b lk lf fs):=by
 refine zfZ hh ?_;rw[show (A.up e).st=A.st from rfl];split
 ·exact UpR.ok
 ·exact UpR.none
def UpB (e:Nat) (a a':Option (Except Nat (Bool × Ma))):Prop:=∀ q,a=some q ->
 match q with
 |.error j=>j=4\/j=5\/a'=some (.error j)
 |.ok B=>a'=some (.ok (B.1,B.2.up e))
theorem UpB.of{b:Bool}{a:Option (Except Nat Ma)}:UpR e a a'->UpB e (match a with|none=>none|some (.error k)=>some (.error k)|some (.ok A')=>some (.ok (b,A'))) (match a' with|none=>none|some (.error k)=>some (.error k)|some (.ok A')=>some (.ok (b,A'))):=by
 intro h q hq;cases a with
 |none=>simp at hq
 |some x=>
  have hx:=h x rfl;cases x with
  |error j=>
   simp at hq;subst hq;rcases hx with hx|hx|hx
   ·exact .inl hx
   ·exact .inr (.inl hx)
   ·exact .inr (.inr (by rw[hx]))
  |ok B=>
   simp at hq;subst hq;have ij:a'=some (.ok (B.up e)):=hx;simp only;rw[ij]
theorem zrb(hh:hf<=hf')(c:Nat):UpB e (A.za5 hf sl c) ((A.up e).za5 hf' sl c):=by
 unfold Ma.za5;rw[show (A.up e).h=A.h from rfl,show (A.up e).st=A.st from rfl];split
 ·split
  ·intro q hq;cases hq;exact .inr (.inr rfl)
  ·intro q hq;cases hq;exact .inr (.inr rfl)
  ·split
   ·intro q hq;cases hq
   ·split
    ·intro q hq;cases hq
    ·split
     ·exact UpB.of (zs3 hh _ _ _)
     ·split
      ·intro q hq;cases hq
      ·exact UpB.of (zxf hh _ _ _ _)
  ·intro q hq;cases hq
 ·intro q hq;cases hq
theorem zeQ(hh:hf<=hf'):∀ (g:Nat) {A:Ma},UpR e (A.za1 hf sl g) ((A.up e).za1 hf' sl g)
 |0,A=>by rw[Ma.za1];exact UpR.none
 |g+1,A=>by
  rw[Ma.za1,Ma.za1];rw[show (A.up e).h=A.h from rfl,show (A.up e).st=A.st from rfl];split
  ·exact UpR.ok
  ·split
   ·split
    ·exact UpR.none
    ·split
     ·split
      ·split
       ·split
        ·split
         ·exact zeQ hh g (A:={ A with h:=A.h.set _ (.fwd _),st:=zcE A.st 3++[.ad _] })
         ·exact zeQ hh g (A:={ A with h:=A.h.set _ (.fwd _),st:=zcE A.st 3++[.ad _] })
         ·split
          ·exact zeQ hh g (A:={ A with h:=A.h.set _ (.fwd _),st:=zcE A.st 3++[.ad _] })
          ·exact UpR.none
         ·exact UpR.none
        ·exact UpR.none
       ·exact UpR.none
      ·exact UpR.none
     ·split
      ·split
       ·exact UpR.ok
       ·exact UpR.none
      ·split
       ·next b _ _ _ _ _=>
        have ha:=zrb (e:=e) (sl:=sl) hh (A:=A) b;cases hq:A.za5 hf sl b with
        |none=>exact UpR.none
        |some x=>
         have hx:=ha x hq;cases x with
         |error j=>
          intro q lx;cases lx;rcases hx with hx|hx|hx
          ·exact .inl hx
          ·exact .inr (.inl hx)
          ·exact .inr (.inr (by rw[hx]))
         |ok B=>
          have ij:(A.up e).za5 hf' sl b=some (.ok (B.1,B.2.up e)):=hx;rw[ij];simp only;split
          ·exact UpR.ok
          ·exact zeQ hh g
       ·exact UpR.none
   ·exact UpR.none
theorem zqp(hh:hf<=hf'):UpR e (A.enter hf sl) ((A.up e).enter hf' sl):=by
 unfold Ma.enter;rw[show (A.up e).h=A.h from rfl,show (A.up e).st=A.st from rfl];split
 ·next a _=>
  simp only;have hg:UpR e (Ma.za1 hf sl (A.st.length+1) { A with st:=zcE A.st 1++[.ad (can A.h a)] }) (Ma.za1 hf' sl (A.st.length+1) { (A.up e) with st:=zcE A.st 1++[.ad (can A.h a)] }):=zeQ hh _ (A:={ A with st:=zcE A.st 1++[.ad (can A.h a)] });split
  ·exact UpR.out5
  ·exact hg
  ·exact hg
  ·split
   ·exact UpR.none
   ·split
    ·exact zva hh (A:={ A with st:=zcE A.st 1++[.ad (can A.h a)] }) _ _ _
    ·split
     ·exact hg
     ·exact UpR.none
  ·exact UpR.none
 ·exact UpR.none
theorem znx(hh:hf<=hf'){A:Ma}{t:Nat}{fs:List Nat}:∀ (l:List (Nat × Nat × Nat)),UpR e (A.zcc hf t fs l) ((A.up e).zcc hf' t fs l)
 |[]=>by rw[Ma.zcc,Ma.zcc];exact UpR.err
 |(u,c,b)::l=>by
  rw[Ma.zcc,Ma.zcc];split
  ·split
   ·exact zfZ hh UpR.ok
   ·exact UpR.err
  ·exact znx hh l
theorem zsN(hh:hf<=hf')(zao:List (Nat × Nat × Nat)):UpR e (A.choose hf zao) ((A.up e).choose hf' zao):=by
 unfold Ma.choose;rw[show (A.up e).h=A.h from rfl,show (A.up e).st=A.st from rfl];split
 ·split
  ·exact znx hh _
  ·exact UpR.err
  ·exact UpR.err
  ·exact UpR.none
 ·exact UpR.none
theorem zxU(hh:hf<=hf')(i:Ins):UpR e (A.step hf sl i) ((A.up e).step hf' sl i):=by
 cases i with
 |push k=>exact ziU hh rfl
 |zcW f=>exact ziU hh rfl
 |num x=>exact zcp hh _
 |pack t c=>exact zvX hh _ _
 |close b c=>exact zvW hh _ _
 |hold b c=>exact zxo hh _ _
 |fill k c=>exact zxm _ _
 |wait b=>
  simp only[Ma.step];split
  ·exact ziU hh rfl
  ·exact UpR.none
 |zbF c=>
  simp only[Ma.step];split
  ·exact ziU hh rfl
  ·exact UpR.none
 |zci c=>exact zwi _
 |zbX=>
  simp only[Ma.step];rw[show (A.up e).zdW 0=A.zdW 0 from rfl];cases A.zdW 0 with
  |none=>exact UpR.none
  |some q=>
   cases q with
   |error j=>exact UpR.err
   |ok v=>exact UpR.ok
 |comp sg=>exact zrk hh _
 |enter=>exact zqp hh
 |jump b=>exact UpR.ok
 |choose zao=>exact zsN hh _
theorem zoc(hh:hf<=hf'):∀ (l:List Ins) {A:Ma},UpR e (Ma.zbb hf sl l A) (Ma.zbb hf' sl l (A.up e))
 |[],A=>by rw[Ma.zbb,Ma.zbb];exact UpR.ok
 |i::l,A=>by
  rw[Ma.zbb,Ma.zbb];by_cases h0:A.fuel=0
  ·rw[if_pos h0];exact UpR.out5
  ·have h1:¬ (A.up e).fuel=0:=by show ¬ A.fuel+e=0;omega
   rw[if_neg h0,if_neg h1];have hs:=zxU (e:=e) (sl:=sl) hh (A:={ A with fuel:=A.fuel-1 }) i;have hA:Ma.up e { A with fuel:=A.fuel-1 }={ A.up e with fuel:=(A.up e).fuel-1 }:=by
    unfold Ma.up;simp only[Ma.mk.injEq,true_and,and_true];omega
   rw[hA]at hs;cases hq:Ma.step hf sl { A with fuel:=A.fuel-1 } i with
   |none=>exact UpR.none
   |some x=>
    have hx:=hs x hq;cases x with
    |error j=>
     intro q lx;cases lx;rcases hx with hx|hx|hx
     ·exact .inl hx
     ·exact .inr (.inl hx)
     ·exact .inr (.inr (by rw[hx]))
    |ok B=>
     have ij:Ma.step hf' sl { A.up e with fuel:=(A.up e).fuel-1 } i=some (.ok (B.up e)):=hx;rw[ij];exact zoc hh l
theorem zuR(hh:hf<=hf'){cd:List (Nat × List Ins)}:∀ (g:Nat) {A:Ma},UpR e (Ma.work hf cd g A) (Ma.work hf' cd g (A.up e))
 |0,A=>by rw[Ma.work];exact UpR.none
 |g+1,A=>by
  rw[Ma.work,Ma.work];rw[show (A.up e).next=A.next from rfl,show (A.up e).st=A.st from rfl];split
  ·exact UpR.ok
  ·split
   ·exact UpR.none
   ·split
    ·exact UpR.none
    ·next n is _=>
     have hs:UpR e (Ma.zbb hf (cd.map Prod.fst) is { A with below:=(A.st.length:Int)-n }) (Ma.zbb hf' (cd.map Prod.fst) is ⟨(A.up e).h,A.st,(A.up e).fns,(A.up e).fuel,A.next,(A.st.length:Int)-n⟩):=zoc (e:=e) (sl:=cd.map Prod.fst) hh is (A:={ A with below:=(A.st.length:Int)-n });cases hq:Ma.zbb hf (cd.map Prod.fst) is { A with below:=(A.st.length:Int)-n } with
     |none=>exact UpR.none
     |some x=>
      have hx:=hs x hq;cases x with
      |error j=>
       intro q lx;cases lx;rcases hx with hx|hx|hx
       ·exact .inl hx
       ·exact .inr (.inl hx)
       ·exact .inr (.inr (by rw[hx]))
      |ok B=>
       have ij:Ma.zbb hf' (cd.map Prod.fst) is ⟨(A.up e).h,A.st,(A.up e).fns,(A.up e).fuel,A.next,(A.st.length:Int)-n⟩=some (.ok (B.up e)):=hx;rw[ij];exact zuR hh g
theorem znX(hh:hf<=hf'):∀ (m i:Nat) {A:Ma},UpR e (A.zbm hf i m) ((A.up e).zbm hf' i m)
 |0,i,A=>by rw[Ma.zbm,Ma.zbm];exact UpR.ok
 |m+1,i,A=>by
  rw[Ma.zbm,Ma.zbm];split
  ·refine zfZ hh ?_;exact znX hh m (i+1) (A:={ A with h:=A.h++[.clo i []],fns:=A.fns++[A.h.length] })
  ·exact UpR.none
theorem zwm(hh:hf<=hf')(nf main:Nat):UpR e (A.start hf sl nf main) ((A.up e).start hf' sl nf main):=by
 unfold Ma.start;have hs:=znX (e:=e) hh nf 0 (A:=A);cases hq:A.zbm hf 0 nf with
 |none=>exact UpR.none
 |some x=>
  have hx:=hs x hq;cases x with
  |error j=>
   intro q lx;cases lx;rcases hx with hx|hx|hx
   ·exact .inl hx
   ·exact .inr (.inl hx)
   ·exact .inr (.inr (by rw[hx]))
  |ok B=>
   have ij:(A.up e).zbm hf' 0 nf=some (.ok (B.up e)):=hx;rw[ij];refine zfZ hh ?_;rw[show (B.up e).fns=B.fns from rfl];cases B.fns[main]? with
   |none=>exact UpR.none
   |some a=>exact zqp hh (A:={ B with st:=B.st++[.ad a] })
variable {cd:List (Nat × List Ins)}
variable {g:Nat}
theorem zpM(hh:hf<=hf'){nf main fuel dP:Nat}{r:Int × Int × Int × Int}(pW:fuel<=dP)(h:zwX hf cd nf main fuel g=some r)(h4:r≠(4,0,0,0))(h5:r≠(5,0,0,0)):zwX hf' cd nf main dP g=some r:=by
 obtain ⟨e,rfl⟩:∃ e,dP=fuel+e:=⟨dP - fuel,by omega⟩;have hs:=zwm (e:=e) (sl:=cd.map Prod.fst) hh (A:=Ma.new fuel) nf main;rw[show Ma.up e (Ma.new fuel)=Ma.new (fuel+e) from rfl]at hs;unfold zwX at h ⊢;cases hq:(Ma.new fuel).start hf (cd.map Prod.fst) nf main with
 |none=>rw[hq]at h;cases h
 |some x=>
  have hx:=hs x hq;rw[hq]at h;cases x with
  |error j=>
   simp only[zyP]at h;subst h;rcases hx with hx|hx|hx
   ·subst hx;exact absurd rfl h4
   ·subst hx;exact absurd rfl h5
   ·rw[hx]
  |ok B=>
   have ij:(Ma.new (fuel+e)).start hf' (cd.map Prod.fst) nf main=some (.ok (B.up e)):=hx;rw[ij];simp only at h ⊢;have hw:=zuR (e:=e) (cd:=cd) hh g (A:=B);cases bC:Ma.work hf cd g B with
   |none=>rw[bC]at h;cases h
   |some y=>
    have hy:=hw y bC;rw[bC]at h;cases y with
    |error j=>
     simp only[zyP]at h;subst h;rcases hy with hy|hy|hy
     ·subst hy;exact absurd rfl h4
     ·subst hy;exact absurd rfl h5
     ·rw[hy]
    |ok C=>
     have Fx:Ma.work hf' cd g (B.up e)=some (.ok (C.up e)):=hy;rw[Fx];exact h
end Ab
end Go.Proofs.YtgahgkddaljmkaaGreatDoor
namespace Go.Proofs.YtgahgkddaljmkaaGreatDoor
open Tryz
open Go.RowKit
namespace Th
theorem zoX{wr tT:Ex->List (List UInt8)->List Nat}{P:Ex->Nat->Nat->Prop}{ar:List (List UInt8)}:∀ (l:List Tok) (es:List Ex) (lo hi:Nat) (seen:List (List UInt8)),zbd P lo hi l es->(∀ e∈es,∀ lo hi ar,P e lo hi->wr e ar=tT e ar)->zbq wr ar seen l es=zbq tT ar seen l es
 |[],[],_,_,_,_,_=>rfl
 |[],_::_,_,_,_,h,_=>h.elim
 |_::_,[],_,_,_,h,_=>h.elim
 |t::l,e::es,lo,hi,seen,⟨_,m,h1,h2⟩,hw=>by
  rw[zbq,zbq,hw e (by simp) _ _ ar h1,zoX l es m hi _ h2 (fun x hx=>hw x (by simp[hx]))]
theorem zqZ{wr tT:Ex->List (List UInt8)->List Nat}{P:Ex->Nat->Nat->Prop}{ar:List (List UInt8)}:∀ (l:List (Nat × List Tok)) (es:List Ex) (lo hi:Nat),zcb P lo hi l es->(∀ e∈es,∀ lo hi ar,P e lo hi->wr e ar=tT e ar)->zeG wr ar l es=zeG tT ar l es
 |[],[],_,_,_,_=>rfl
 |[],_::_,_,_,h,_=>h.elim
 |_::_,[],_,_,h,_=>h.elim
 |t::l,e::es,lo,hi,⟨m1,m2,_,h1,h2⟩,hw=>by
  rw[zeG,zeG,hw e (by simp) _ _ _ h1,zqZ l es m2 hi h2 (fun x hx=>hw x (by simp[hx]))]
theorem zo3:∀ (N K:Nat) (e:Ex) (lo hi:Nat) (ar:List (List UInt8)),In N e lo hi->Cp.Dp K e->zar N e ar=zar K e ar
 |0,_,_,_,_,_,h,_=>h.elim
 |_+1,0,_,_,_,_,_,h=>h.elim
 |N+1,K+1,e,lo,hi,ar,h,hd=>by
  have ih:=fun (x:Ex) (hx:x∈e.kids) (lo hi:Nat) (ar:List (List UInt8)) (eX:In N x lo hi)=>zo3 N K x lo hi ar eX (hd.2 x hx)
  rcases h.2 with hk|⟨hk,_⟩|⟨hk,b,m',k1,_,k2⟩|⟨hk,e1,e2,m',k1,k2,k3⟩|⟨hk,b,parts,m',k1,k2,k3⟩|⟨hk,b,ag,m',k1,k2,k3⟩
  ·rw[znh hk,znh hk]
  ·rw[zuX hk,zuX hk]
  ·rw[zuV hk k1,zuV hk k1,ih b (by simp[k1]) _ _ _ k2]
  ·rw[zq4 hk k1,zq4 hk k1,ih e1 (by simp[k1]) _ _ _ k2,ih e2 (by simp[k1]) _ _ _ k3]
  ·rw[zuW hk k1,zuW hk k1,ih b (by simp[k1]) _ _ _ k3,zoX _ _ _ _ _ k2 (fun x hx lo hi ar hP=>ih x (by simp[k1,hx]) lo hi ar hP)]
  ·rw[zqa hk k1,zqa hk k1,ih b (by simp[k1]) _ _ _ k2,zqZ _ _ _ _ k3 (fun x hx lo hi ar hP=>ih x (by simp[k1,hx]) lo hi ar hP)]
theorem zoZ{N K:Nat}{all:List (List UInt8)}:∀ (l:List zbr) (lo hi:Nat) (seen:List (List UInt8)),zbM N lo hi l->(∀ f∈l,Cp.Dp K f.e)->zbL N all seen l=zbL K all seen l
 |[],_,_,_,_,_=>rfl
 |x::l,lo,hi,seen,⟨_,m1,m2,_,h1,h2⟩,hd=>by
  rw[zbL,zbL,zo3 N K x.e _ _ _ h1 (hd x (by simp)),zoZ l _ _ _ h2 (fun f hf=>hd f (by simp[hf]))]
end Th
def zmt (s:ByteArray):Option (List Th.zbr × Th.St):=Th.zcn (Th.zdJ 1000) 1000 [] ⟨zay s,none⟩
theorem zjz(s:ByteArray)(hs:s.size<=600):∃ q N,zmt s=some q/\Plain s q N:=by
 have hr:Th.zcx 0 (s.size+1) (zay s):=by
  have:=Th.zhu (s.size+1) s.data.toList 0;rw[zAe,zzG]at this;exact this
 have hl:=hr.len;obtain ⟨q,h1,h2⟩:=Th.zjA (Th.zmC 1000) 1000 [] ⟨zay s,none⟩ ⟨zay s,none⟩ ⟨Th.Step.refl _,fun lo M hr _=>⟨0,lo,zyN _,hr⟩⟩ (by show (zay s).length+1<1000;omega) (by show (zay s).length+1+1<1000;omega);by_cases hb:q.2.bad=none
 ·obtain ⟨N,m,i1,i2⟩:=h2.inn 0 (s.size+1) hr hb;have:=i2.len;exact ⟨q,N,h1,zev s hs,Th.zm8 _ _ _,⟨1000,1000,by omega,by omega,h1⟩,fun _=>⟨0,m,i1,by omega⟩⟩
 ·exact ⟨q,0,h1,zev s hs,Th.zm8 _ _ _,⟨1000,1000,by omega,by omega,h1⟩,fun h=>absurd h hb⟩
variable {s:ByteArray}
variable {q:List Th.zbr × Th.St}
variable {N:Nat}
theorem zvZ(hs:s.size<=600)(hp:Plain s q N)(hb:q.2.bad=none):∀ f∈q.1,Cp.Dp 1300 f.e:=by
 obtain ⟨n,k,_,_,hq⟩:=hp.lines;have hl:=Th.zfE (s.size+1) s.data.toList 0;have hz:s.data.toList.length=s.size:=by rw[zAe];rfl
 rw[hz]at hl;have aj:(zay s).length<=s.size+1:=hl;obtain ⟨m,w1,w2⟩:=Th.zgp k [] _ ⟨zay s,none⟩ q hq (zqw hp.zct) (fun _=>⟨0,by simp,0,by simp,by simp⟩) hb;simp only at w2;have dj:∀ f∈q.1,Cp.wt m f.e<=1300:=fun f hf=>by have:=Th.zhY (fun f=>Cp.wt m f.e+f.params.length+1) hf;omega
 exact fun f hf=>(Th.zxi (w1 f hf).1).le (dj f hf)
theorem zsu(hs:s.size<=600)(hp:Plain s q N):answer s.size q N=answer s.size q 1300:=by
 unfold answer;cases hb:q.2.bad with
 |some p=>rfl
 |none=>
  obtain ⟨lo,hi,hin,_⟩:=hp.within hb;rw[Th.zoZ q.1 lo hi [] hin (zvZ hs hp hb)]
def zdw (s:ByteArray) (heap fuel:Int) (r:Ab.zsp) (c:Int):Prop:=∀ w:World,
 Calls prog 25 #[.string s,.int .i64 heap,.int .i64 fuel] w fun e w'=>e=.returned (.tuple #[ziu r.1 r.2.1 r.2.2.1 r.2.2.2,.int .i64 c])/\Fr (fun _=>False) w w'
noncomputable abbrev runL (l:List Th.zbr) (heap fuel:Int):Nat->Option Ab.zsp:=Ab.zwX (zb9 heap 262144/2) (Cp.program 1300 l) l.length ((Th.zaq l).idxOf Th.zcO) (zb9 fuel 4000000)
theorem zqm(x:Int)(m:Nat):zb9 x m<=m:=by unfold zb9;omega
theorem zll{x y:Int}(h:x<=y)(m:Nat):zb9 x m<=zb9 y m:=by unfold zb9;omega
variable {heap fuel:Int}
variable {r:Ab.zsp}
theorem zjN(hs:s.size<=600)(hp:Plain s q N)(h0:(answer s.size q N).1=0)(h:Ab.Sure (runL q.1 heap fuel) r):zdw s heap fuel r 0:=by
 obtain ⟨c,hc⟩:=h;have h1:=hc 0;rw[zzG]at h1;have:=zqm heap 262144;exact fun w=>zwv hs hp h0 heap fuel (g:=c) (fun pv=>Ab.zt2 (by omega) h1) w
theorem zpV(s:ByteArray){gH dP:Int}(hh:heap<=gH)(hf:fuel<=dP):
  ∃ r r' c,zdw s heap fuel r c/\zdw s gH dP r' c/\(c≠0->r=(0,0,0,0)/\r'=(0,0,0,0))/\(c=0->r=(4,0,0,0)\/r=(5,0,0,0)\/r=r'):=by
 by_cases hs:s.size<=600
 ·obtain ⟨q,N,_,hp⟩:=zjz s hs;by_cases h0:(answer s.size q N).1=0
  ·have ho:=zmA hs hp h0;obtain ⟨r,hr⟩:=Sf.zjK ho (zb9 heap 262144/2) (zb9 fuel 4000000);obtain ⟨r',ju⟩:=Sf.zjK ho (zb9 gH 262144/2) (zb9 dP 4000000);refine ⟨r,r',0,zjN hs hp h0 hr,zjN hs hp h0 ju,fun h=>absurd rfl h,fun _=>?_⟩;by_cases h4:r=(4,0,0,0)
   ·exact .inl h4
   ·by_cases h5:r=(5,0,0,0)
    ·exact .inr (.inl h5)
    ·refine .inr (.inr ?_);obtain ⟨c,hc⟩:=hr;obtain ⟨c',eV⟩:=ju;have h1:=Ab.zpM (hf:=zb9 heap 262144/2) (hf':=zb9 gH 262144/2) (by have:=zll hh 262144;omega) (zll hf 4000000) (hc c') h4 h5;rw[Nat.add_comm,eV]at h1;cases h1;rfl
  ·refine ⟨(0,0,0,0),(0,0,0,0),_,fun w=>zuH hs hp h0 heap fuel w,fun w=>zuH hs hp h0 gH dP w,fun _=>⟨rfl,rfl⟩,fun h=>absurd (by omega) h0⟩
 ·exact ⟨(0,0,0,0),(0,0,0,0),1,fun w=>zoO (by omega) heap fuel w,fun w=>zoO (by omega) gH dP w,fun _=>⟨rfl,rfl⟩,fun h=>by omega⟩
theorem zkr{cd:List (Nat × List Ins)}(c:Nat):∀ (g:Nat) (m:MSt) (q:Except Nat MSt),MSt.work cd g m=some q->MSt.work cd (g+c) m=some q
 |0,_,_,h=>by simp[MSt.work]at h
 |g+1,m,q,h=>by
  rw[show g+1+c=(g+c)+1 by omega];rw[MSt.work]at h ⊢;split at h
  ·next h1=>rw[if_pos h1];exact h
  ·next h1=>
   rw[if_neg h1];split at h
   ·cases h
   ·next h2=>
    rw[if_neg h2];split at h
    ·cases h
    ·split at h
     ·cases h
     ·exact h
     ·next m2 hk=>exact zkr c g m2 q h
theorem zt1(pv:Value)(cd:List (Nat × List Ins))(nf main words fu g c:Nat)(r:Ab.zsp)(h:runM pv cd nf main words fu g=some r):runM pv cd nf main words fu (g+c)=some r:=by
 unfold runM at h ⊢;split at h
 ·cases h
 ·exact h
 ·next m1 hk=>
  split at h
  ·cases h
  ·next k hw=>rw[zkr c g m1 _ hw];exact h
  ·next m2 hw=>rw[zkr c g m1 _ hw];exact h
variable {g:Nat}
theorem zod{words fu:Nat}(hs:s.size<=600)(hq:zmt s=some q)(h0:(answer s.size q 1300).1=0)(hr:runM (.int .i64 0) (Cp.program 1300 q.1) q.1.length ((Th.zaq q.1).idxOf Th.zcO) words fu g=some r)(h4:r≠(4,0,0,0))(h5:r≠(5,0,0,0))(hw:words<=zb9 heap 262144)(hf:fu<=zb9 fuel 4000000):zdw s heap fuel r 0:=by
 obtain ⟨q',N,e1,hp⟩:=zjz s hs;rw[hq]at e1;cases e1;rw[<-zsu hs hp]at h0;have ho:=zmA hs hp h0;have:=zqm heap 262144;obtain ⟨r',c,hc⟩:=Sf.zjK ho (words/2) fu;have h1:=Ab.zt2 (pv:=.int .i64 0) (words:=words) (by omega) (hc g);have nZ:r'=r:=by
  have h2:=hr;have h3:=zt1 (.int .i64 0) (Cp.program 1300 q.1) q.1.length ((Th.zaq q.1).idxOf Th.zcO) words fu g c r h2;rw[h3]at h1;cases h1;rfl
 subst nZ;have h2:=Ab.zpM (hf:=words/2) (hf':=zb9 heap 262144/2) (by omega) hf (hc 0) h4 h5;refine zjN hs hp h0 ⟨c,fun k=>?_⟩;exact Ab.zpM (hf:=words/2) (hf':=zb9 heap 262144/2) (by omega) hf (hc k) h4 h5
end Go.Proofs.YtgahgkddaljmkaaGreatDoor
namespace Go.Proofs.YtgahgkddaljmkaaGreatDoor
open Tryz
def zsX (s:ByteArray) (words fu g:Nat) (r:Ab.zsp):Bool:=
 match zmt s with
 |none=>false
 |some q=>(answer s.size q 1300).1 == 0 && (runM (.int .i64 0) (Cp.program 1300 q.1) q.1.length ((Th.zaq q.1).idxOf Th.zcO) words fu g == some r)
variable {s:ByteArray}
variable {g:Nat}
variable {r:Ab.zsp}
variable {heap fuel:Int}
theorem zhR{words fu:Nat}(h:zsX s words fu g r=true)(hs:s.size<=600)(h4:r≠(4,0,0,0))(h5:r≠(5,0,0,0))(hw:words<=zb9 heap 262144)(hf:fu<=zb9 fuel 4000000):zdw s heap fuel r 0:=by
 unfold zsX at h;split at h
 ·cases h
 ·next q hq=>
  rw[zzv]at h;exact zod hs hq (by simpa using h.1) (by simpa using h.2) h4 h5 hw hf
def wk0:ByteArray:=⟨#[107,32,120,32,121,32,61,32,120,59,32,109,97,105,110,32,61,32,107,32,52,32,40,49,32,47,32,48,41,59]⟩
theorem zwz:zsX wk0 100 60 30 (1,4,0,0)=true:=by kernel_rfl
theorem zwA:zdw wk0 262144 4000000 (1,4,0,0) 0:=zhR zwz (by decide) (by decide) (by decide) (by decide) (by decide)
def wk1:ByteArray:=⟨#[109,97,105,110,32,61,32,123,55,44,50,125,32,40,49,32,47,32,48,41,32,51,59]⟩
theorem zwB:zsX wk1 100 60 30 (2,0,7,2)=true:=by kernel_rfl
theorem zwC:zdw wk1 262144 4000000 (2,0,7,2) 0:=zhR zwB (by decide) (by decide) (by decide) (by decide) (by decide)
def wk2:ByteArray:=⟨#[109,97,105,110,32,61,32,49,32,47,32,48,59]⟩
theorem zwD:zsX wk2 100 60 30 (3,0,0,0)=true:=by kernel_rfl
theorem zwE:zdw wk2 262144 4000000 (3,0,0,0) 0:=zhR zwD (by decide) (by decide) (by decide) (by decide) (by decide)
end Go.Proofs.YtgahgkddaljmkaaGreatDoor
namespace Go.Proofs.YtgahgkddaljmkaaGreatDoor
open Tryz
open Go.RowKit
attribute [local go_sem ↓] Go.wp_at_zero Go.wp_at_succ
theorem zo2(w:World):
  Calls prog 20 #[] w fun e w'=>e=.returned (.bool true)/\Fr (fun _=>False) w w':=by
 have H0:=zwA;have H1:=zwC;have H2:=zwE;unfold zdw wk0 ziu at H0;unfold zdw wk1 ziu at H1;unfold zdw wk2 ziu at H2;have K0:=zab H0;have K1:=zab H1;have K2:=zab H2;clear H0 H1 H2;go_enter func20,ntmps20
 go_wp2_with fail
 refine (K0.o _).mono ?_;rintro e w1 ⟨rfl,f1⟩;have F1:=zab (f1.alloc (.cells #[.int .i64 1,.int .i64 4,.int .i64 0,.int .i64 0] 35));have B1:=zab (Blk.new w1 [.int .i64 1,.int .i64 4,.int .i64 0,.int .i64 0] 35);clear f1;go_wp2_with fail
 refine (K1.o _).mono ?_;rintro e w2 ⟨rfl,f2⟩;have F2:=zab ((F1.o.trans f2).alloc (.cells #[.int .i64 2,.int .i64 0,.int .i64 7,.int .i64 2] 35));have B2:=zab (Blk.new w2 [.int .i64 2,.int .i64 0,.int .i64 7,.int .i64 2] 35);have Bg:=zab (Fr.blk B1.o (f2.alloc (.cells #[.int .i64 2,.int .i64 0,.int .i64 7,.int .i64 2] 35)) (by simp));clear f2;go_wp2_with fail
 refine (K2.o _).mono ?_;rintro e w3 ⟨rfl,f3⟩;have F3:=zab ((F2.o.trans f3).alloc (.cells #[.int .i64 3,.int .i64 0,.int .i64 0,.int .i64 0] 35));have b3:=Blk.new w3 [.int .i64 3,.int .i64 0,.int .i64 0,.int .i64 0] 35;have q8:=Fr.blk B2.o (f3.alloc (.cells #[.int .i64 3,.int .i64 0,.int .i64 0,.int .i64 0] 35)) (by simp);have qZ:=Fr.blk Bg.o (f3.alloc (.cells #[.int .i64 3,.int .i64 0,.int .i64 0,.int .i64 0] 35)) (by simp);have c10:=qZ.cell 0;have c11:=qZ.cell 1;have wj:=qZ.cell 2;have wo:=qZ.cell 3;have Dw:=q8.cell 0;have Dx:=q8.cell 1;have Dy:=q8.cell 2;have Dz:=q8.cell 3;have DA:=b3.cell 0;have DB:=b3.cell 1;have DC:=b3.cell 2;have DD:=b3.cell 3;simp at c10 c11 wj wo Dw Dx Dy Dz DA DB DC DD;clear f3 b3 q8 qZ;go_wp2_with fail
 go_ret
 exact ⟨rfl,F3.o⟩
def zmD (c n:Int):Int:=(if c<0 then -(c+1) else c)%n
theorem zfA{c n:Int}(hn:0<n):0<=zmD c n/\zmD c n<n:=⟨Int.emod_nonneg _ (by omega),Int.emod_lt_of_pos _ hn⟩
theorem zfB{c n:Int}(h1:-9223372036854775808<=c)(h2:c<=9223372036854775807)(hn:0<n)(eY:n<=9223372036854775807)(w:World):
  Calls prog 23 #[.int .i64 c,.int .i64 n] w fun e w'=>e=.returned (.int .i64 (zmD c n))/\w'=w:=by
 by_cases hc:c<0
 ·go_enter func23,ntmps23
  go_wp2_with fail
  go_ret
  refine ⟨?_,rfl⟩;unfold zmD;rw[if_pos hc,<-Int.neg_tmod,Int.tmod_eq_emod_of_nonneg (by omega)];rfl
 ·go_enter func23,ntmps23
  go_wp2_with fail
  go_ret
  refine ⟨?_,rfl⟩;unfold zmD;rw[if_neg (by omega)];rfl
theorem zrQ(r:Ab.zsp)(w:World):
  Calls prog 26 #[ziu r.1 r.2.1 r.2.2.1 r.2.2.2] w fun e w'=>e=.returned (.bool (decide (r=(4,0,0,0)\/r=(5,0,0,0))))/\Fr (fun _=>False) w w':=by
 obtain ⟨k,n,t,a⟩:=r;unfold ziu;go_enter func26,ntmps26
 go_wp2_with fail
 all_goals
  go_ret
  refine ⟨?_,(Fr.refl _ _).alloc _⟩;simp[*]
end Go.Proofs.YtgahgkddaljmkaaGreatDoor
