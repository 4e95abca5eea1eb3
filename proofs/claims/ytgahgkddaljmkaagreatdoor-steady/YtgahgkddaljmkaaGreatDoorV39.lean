/- Mon1 .. LawK2 -/
import Derived.Test.YtgahgkddaljmkaaGreatDoorV38
import Derived.Test.YtgahgkddaljmkaaGreatDoorV33
import Derived.Test.YtgahgkddaljmkaaGreatDoorV37
import Derived.Test.YtgahgkddaljmkaaGreatDoorV1
set_option maxRecDepth 100000
set_option maxHeartbeats 4000000
namespace Go.Proofs.YtgahgkddaljmkaaGreatDoor
namespace Ab
def Ma.up (e:Nat) (A:Ma):Ma:={ A with fuel:=A.fuel+e }
def UpR (e:Nat) (a a':Option (Except Nat Ma)):Prop:=∀ q,a=some q ->
 match q with
 |.error j=>j=4\/j=5\/a'=some (.error j)
 |.ok B=>a'=some (.ok (B.up e))
theorem UpR.none{e:Nat}{a':Option (Except Nat Ma)}:UpR e none a':=fun _ h=>by cases h
variable {e:Nat}
theorem UpR.err{j:Nat}:UpR e (some (.error j)) (some (.error j)):=fun q h=>by cases h;exact .inr (.inr rfl)
variable {a':Option (Except Nat Ma)}
theorem UpR.out4 :UpR e (some (.error 4)) a':=fun q h=>by cases h;exact .inl rfl
theorem UpR.out5 :UpR e (some (.error 5)) a':=fun q h=>by cases h;exact .inr (.inl rfl)
theorem UpR.ok{B:Ma}:UpR e (okA B) (okA (B.up e)):=fun q h=>by cases h;rfl
variable {hf hf' e:Nat} {sl:List Nat} (hh:hf<=hf')
include hh
variable {A:Ma}
theorem zfV{k:Nat}{f f':Ma->Option (Except Nat Ma)}(h:UpR e (f A) (f' (A.up e))):UpR e (ask hf k A f) (ask hf' k (A.up e) f'):=by
 unfold ask;by_cases h1:Fits hf A k
 ·have h2:Fits hf' (A.up e) k:=fun C c1 c2=>zxN (h1 C c1 c2) hh
  rw[if_pos h1,if_pos h2];exact h
 ·rw[if_neg h1];exact UpR.out4
theorem zcl(v:Int):UpR e (A.zau hf v) ((A.up e).zau hf' v):=zfV hh UpR.ok
theorem zp7(nd:List Nat->Nd)(c:Nat):UpR e (A.mkN hf nd c) ((A.up e).mkN hf' nd c):=by
 refine zfV hh ?_;show UpR e (match zlN A.st c with|none=>none|some fs=>okA _) (match zlN A.st c with|none=>none|some fs=>okA _);cases zlN A.st c with
 |none=>exact UpR.none
 |some fs=>exact UpR.ok
theorem zus(t c:Nat):UpR e (A.zot hf t c) ((A.up e).zot hf' t c):=by
 unfold Ma.zot;split
 ·exact zp7 hh _ _
 ·exact UpR.none
theorem zvO(t c:Nat):UpR e (A.zpc hf t c) ((A.up e).zpc hf' t c):=by
 unfold Ma.zpc;split
 ·exact zp7 hh _ _
 ·exact UpR.none
theorem zwP(b c:Nat):UpR e (A.hold hf b c) ((A.up e).hold hf' b c):=by
 unfold Ma.hold;split
 ·exact zfV hh UpR.ok
 ·exact UpR.none
theorem ziF{w:Ma->Option Wd}(hw:w (A.up e)=w A):UpR e (A.zjT hf w) ((A.up e).zjT hf' w):=by
 refine zfV hh ?_;rw[hw];cases w A with
 |none=>exact UpR.none
 |some x=>exact UpR.ok
omit hh in
theorem zwM(k c:Nat):UpR e (A.fill k c) ((A.up e).fill k c):=by
 unfold Ma.fill;rw[show (A.up e).slot k=A.slot k from rfl,show (A.up e).h=A.h from rfl,show (A.up e).st=A.st from rfl];split
 ·split
  ·split
   ·split
    ·exact UpR.none
    ·exact UpR.ok
   ·exact UpR.none
  ·exact UpR.none
 ·exact UpR.none
omit hh in
theorem zuU(c:Nat):UpR e ((A.zcf c).map .ok) (((A.up e).zcf c).map .ok):=by
 unfold Ma.zcf;rw[show (A.up e).below=A.below from rfl,show (A.up e).st=A.st from rfl];split
 ·exact UpR.ok
 ·exact UpR.none
theorem zwS(sg:ByteArray)(l r:Int):UpR e (A.calc hf sg l r) ((A.up e).calc hf' sg l r):=by
 unfold Ma.calc;split
 ·exact zcl hh _
 ·split
  ·exact zcl hh _
  ·split
   ·exact zcl hh _
   ·split
    ·split
     ·exact UpR.err
     ·exact zcl hh _
    ·split
     ·exact zp7 hh _ _
     ·split
      ·exact zp7 hh _ _
      ·exact UpR.none
theorem zrq(sg:ByteArray):UpR e (A.compute hf sg) ((A.up e).compute hf' sg):=by
 unfold Ma.compute;rw[show (A.up e).zd2 0=A.zd2 0 from rfl,show (A.up e).zd2 1=A.zd2 1 from rfl];split
 ·exact UpR.none
 ·exact UpR.err
 ·split
  ·exact UpR.none
  ·exact UpR.err
  ·exact zwS hh (A:={ A with st:=zcE A.st 2 }) sg _ _
theorem zvl(a b:Nat)(fs:List Nat):UpR e (A.zdw hf a b fs) ((A.up e).zdw hf' a b fs):=zfV hh UpR.ok
theorem ztU(b c:Nat)(fs:List Nat):UpR e (A.extend hf b c fs) ((A.up e).extend hf' b c fs):=by
 refine zfV hh ?_;split
 ·show UpR e (match zlN (zcE A.st 2) c with|none=>none|some fs=>okA _) (match zlN (zcE A.st 2) c with|none=>none|some fs=>okA _);cases zlN (zcE A.st 2) c with
  |none=>exact UpR.none
  |some fs=>exact UpR.ok
 ·exact UpR.none
theorem zwa(b lk lf:Nat)(fs:List Nat):UpR e (A.call hf b lk lf fs) ((A.up e).call hf' b lk lf fs):=by
 refine zfV hh ?_;rw[show (A.up e).st=A.st from rfl];split
 ·exact UpR.ok
 ·exact UpR.none
def UpB (e:Nat) (a a':Option (Except Nat (Bool × Ma))):Prop:=∀ q,a=some q ->
 match q with
 |.error j=>j=4\/j=5\/a'=some (.error j)
 |.ok B=>a'=some (.ok (B.1,B.2.up e))
omit hh in
theorem UpB.of{b:Bool}{a:Option (Except Nat Ma)}:UpR e a a'->UpB e (match a with|none=>none|some (.error k)=>some (.error k)|some (.ok A')=>some (.ok (b,A'))) (match a' with|none=>none|some (.error k)=>some (.error k)|some (.ok A')=>some (.ok (b,A'))):=by
 intro h q hq;cases a with
 |none=>simp at hq
 |some x=>
  have hx:=h x rfl;cases x with
  |error j=>
   simp at hq;subst hq;rcases hx with hx|hx|hx
   ·exact .inl hx
   ·exact .inr (.inl hx)
   ·exact .inr (.inr (by rw[hx]))
  |ok B=>
   simp at hq;subst hq;have hx':a'=some (.ok (B.up e)):=hx;simp only;rw[hx']
theorem zqT(c:Nat):UpB e (A.za4 hf sl c) ((A.up e).za4 hf' sl c):=by
 unfold Ma.za4;rw[show (A.up e).h=A.h from rfl,show (A.up e).st=A.st from rfl];split
 ·split
  ·intro q hq;cases hq;exact .inr (.inr rfl)
  ·intro q hq;cases hq;exact .inr (.inr rfl)
  ·split
   ·intro q hq;cases hq
   ·split
    ·intro q hq;cases hq
    ·split
     ·exact UpB.of (ztU hh _ _ _)
     ·split
      ·intro q hq;cases hq
      ·exact UpB.of (zwa hh _ _ _ _)
  ·intro q hq;cases hq
 ·intro q hq;cases hq
theorem ze5:∀ (g:Nat) {A:Ma},UpR e (A.za1 hf sl g) ((A.up e).za1 hf' sl g)
 |0,A=>by rw[Ma.za1];exact UpR.none
 |g+1,A=>by
  rw[Ma.za1,Ma.za1];rw[show (A.up e).h=A.h from rfl,show (A.up e).st=A.st from rfl];split
  ·exact UpR.ok
  ·split
   ·split
    ·exact UpR.none
    ·split
     ·split
      ·split
       ·split
        ·split
         ·exact ze5 g (A:={ A with h:=A.h.set _ (.fwd _),st:=zcE A.st 3++[.ad _] })
         ·exact ze5 g (A:={ A with h:=A.h.set _ (.fwd _),st:=zcE A.st 3++[.ad _] })
         ·split
          ·exact ze5 g (A:={ A with h:=A.h.set _ (.fwd _),st:=zcE A.st 3++[.ad _] })
          ·exact UpR.none
         ·exact UpR.none
        ·exact UpR.none
       ·exact UpR.none
      ·exact UpR.none
     ·split
      ·split
       ·exact UpR.ok
       ·exact UpR.none
      ·split
       ·next b _ _ _ _ _=>
        have ha:=zqT (e:=e) (sl:=sl) hh (A:=A) b;cases hq:A.za4 hf sl b with
        |none=>exact UpR.none
        |some x=>
         have hx:=ha x hq;cases x with
         |error j=>
          intro q hq';cases hq';rcases hx with hx|hx|hx
          ·exact .inl hx
          ·exact .inr (.inl hx)
          ·exact .inr (.inr (by rw[hx]))
         |ok B=>
          have hx':(A.up e).za4 hf' sl b=some (.ok (B.1,B.2.up e)):=hx;rw[hx'];simp only;split
          ·exact UpR.ok
          ·exact ze5 g
       ·exact UpR.none
   ·exact UpR.none
theorem zqj :UpR e (A.enter hf sl) ((A.up e).enter hf' sl):=by
 unfold Ma.enter;rw[show (A.up e).h=A.h from rfl,show (A.up e).st=A.st from rfl];split
 ·next a _=>
  simp only;have hg:UpR e (Ma.za1 hf sl (A.st.length+1) { A with st:=zcE A.st 1++[.ad (can A.h a)] }) (Ma.za1 hf' sl (A.st.length+1) { (A.up e) with st:=zcE A.st 1++[.ad (can A.h a)] }):=ze5 hh _ (A:={ A with st:=zcE A.st 1++[.ad (can A.h a)] });split
  ·exact UpR.out5
  ·exact hg
  ·exact hg
  ·split
   ·exact UpR.none
   ·split
    ·exact zvl hh (A:={ A with st:=zcE A.st 1++[.ad (can A.h a)] }) _ _ _
    ·split
     ·exact hg
     ·exact UpR.none
  ·exact UpR.none
 ·exact UpR.none
theorem zos{A:Ma}{t:Nat}{fs:List Nat}:∀ (l:List (Nat × Nat × Nat)),UpR e (A.zca hf t fs l) ((A.up e).zca hf' t fs l)
 |[]=>by rw[Ma.zca,Ma.zca];exact UpR.err
 |(u,c,b)::l=>by
  rw[Ma.zca,Ma.zca];split
  ·split
   ·exact zfV hh UpR.ok
   ·exact UpR.err
  ·exact zos l
theorem zsN(zao:List (Nat × Nat × Nat)):UpR e (A.choose hf zao) ((A.up e).choose hf' zao):=by
 unfold Ma.choose;rw[show (A.up e).h=A.h from rfl,show (A.up e).st=A.st from rfl];split
 ·split
  ·exact zos hh _
  ·exact UpR.err
  ·exact UpR.err
  ·exact UpR.none
 ·exact UpR.none
theorem zwc(i:Ins):UpR e (A.step hf sl i) ((A.up e).step hf' sl i):=by
 cases i with
 |push k=>exact ziF hh rfl
 |zcS f=>exact ziF hh rfl
 |num x=>exact zcl hh _
 |pack t c=>exact zus hh _ _
 |close b c=>exact zvO hh _ _
 |hold b c=>exact zwP hh _ _
 |fill k c=>exact zwM _ _
 |wait b=>
  simp only[Ma.step];split
  ·exact ziF hh rfl
  ·exact UpR.none
 |zbD c=>
  simp only[Ma.step];split
  ·exact ziF hh rfl
  ·exact UpR.none
 |zcf c=>exact zuU _
 |zbV=>
  simp only[Ma.step];rw[show (A.up e).zd2 0=A.zd2 0 from rfl];cases A.zd2 0 with
  |none=>exact UpR.none
  |some q=>
   cases q with
   |error j=>exact UpR.err
   |ok v=>exact UpR.ok
 |comp sg=>exact zrq hh _
 |enter=>exact zqj hh
 |jump b=>exact UpR.ok
 |choose zao=>exact zsN hh _
theorem zoC:∀ (l:List Ins) {A:Ma},UpR e (Ma.za9 hf sl l A) (Ma.za9 hf' sl l (A.up e))
 |[],A=>by rw[Ma.za9,Ma.za9];exact UpR.ok
 |i::l,A=>by
  rw[Ma.za9,Ma.za9];by_cases h0:A.fuel=0
  ·rw[if_pos h0];exact UpR.out5
  ·have h1:¬ (A.up e).fuel=0:=by show ¬ A.fuel+e=0;omega
   rw[if_neg h0,if_neg h1];have hs:=zwc (e:=e) (sl:=sl) hh (A:={ A with fuel:=A.fuel-1 }) i;have hA:Ma.up e { A with fuel:=A.fuel-1 }={ A.up e with fuel:=(A.up e).fuel-1 }:=by
    unfold Ma.up;simp only[Ma.mk.injEq,true_and,and_true];omega
   rw[hA]at hs;cases hq:Ma.step hf sl { A with fuel:=A.fuel-1 } i with
   |none=>exact UpR.none
   |some x=>
    have hx:=hs x hq;cases x with
    |error j=>
     intro q hq';cases hq';rcases hx with hx|hx|hx
     ·exact .inl hx
     ·exact .inr (.inl hx)
     ·exact .inr (.inr (by rw[hx]))
    |ok B=>
     have hx':Ma.step hf' sl { A.up e with fuel:=(A.up e).fuel-1 } i=some (.ok (B.up e)):=hx;rw[hx'];exact zoC l
theorem zto{cd:List (Nat × List Ins)}:∀ (g:Nat) {A:Ma},UpR e (Ma.work hf cd g A) (Ma.work hf' cd g (A.up e))
 |0,A=>by rw[Ma.work];exact UpR.none
 |g+1,A=>by
  rw[Ma.work,Ma.work];rw[show (A.up e).next=A.next from rfl,show (A.up e).st=A.st from rfl];split
  ·exact UpR.ok
  ·split
   ·exact UpR.none
   ·split
    ·exact UpR.none
    ·next n is _=>
     have hs:UpR e (Ma.za9 hf (cd.map Prod.fst) is { A with below:=(A.st.length:Int)-n }) (Ma.za9 hf' (cd.map Prod.fst) is ⟨(A.up e).h,A.st,(A.up e).fns,(A.up e).fuel,A.next,(A.st.length:Int)-n⟩):=zoC (e:=e) (sl:=cd.map Prod.fst) hh is (A:={ A with below:=(A.st.length:Int)-n });cases hq:Ma.za9 hf (cd.map Prod.fst) is { A with below:=(A.st.length:Int)-n } with
     |none=>exact UpR.none
     |some x=>
      have hx:=hs x hq;cases x with
      |error j=>
       intro q hq';cases hq';rcases hx with hx|hx|hx
       ·exact .inl hx
       ·exact .inr (.inl hx)
       ·exact .inr (.inr (by rw[hx]))
      |ok B=>
       have hx':Ma.za9 hf' (cd.map Prod.fst) is ⟨(A.up e).h,A.st,(A.up e).fns,(A.up e).fuel,A.next,(A.st.length:Int)-n⟩=some (.ok (B.up e)):=hx;rw[hx'];exact zto g
theorem zou:∀ (m i:Nat) {A:Ma},UpR e (A.zbk hf i m) ((A.up e).zbk hf' i m)
 |0,i,A=>by rw[Ma.zbk,Ma.zbk];exact UpR.ok
 |m+1,i,A=>by
  rw[Ma.zbk,Ma.zbk];split
  ·refine zfV hh ?_;exact zou m (i+1) (A:={ A with h:=A.h++[.clo i []],fns:=A.fns++[A.h.length] })
  ·exact UpR.none
theorem zvJ(nf main:Nat):UpR e (A.start hf sl nf main) ((A.up e).start hf' sl nf main):=by
 unfold Ma.start;have hs:=zou (e:=e) hh nf 0 (A:=A);cases hq:A.zbk hf 0 nf with
 |none=>exact UpR.none
 |some x=>
  have hx:=hs x hq;cases x with
  |error j=>
   intro q hq';cases hq';rcases hx with hx|hx|hx
   ·exact .inl hx
   ·exact .inr (.inl hx)
   ·exact .inr (.inr (by rw[hx]))
  |ok B=>
   have hx':(A.up e).zbk hf' 0 nf=some (.ok (B.up e)):=hx;rw[hx'];refine zfV hh ?_;rw[show (B.up e).fns=B.fns from rfl];cases B.fns[main]? with
   |none=>exact UpR.none
   |some a=>exact zqj hh (A:={ B with st:=B.st++[.ad a] })
variable {cd:List (Nat × List Ins)}
variable {g:Nat}
theorem zpz{nf main fuel fuel':Nat}{r:Int × Int × Int × Int}(hfu:fuel<=fuel')(h:zvQ hf cd nf main fuel g=some r)(h4:r≠(4,0,0,0))(h5:r≠(5,0,0,0)):zvQ hf' cd nf main fuel' g=some r:=by
 obtain ⟨e,rfl⟩:∃ e,fuel'=fuel+e:=⟨fuel' - fuel,by omega⟩;have hs:=zvJ (e:=e) (sl:=cd.map Prod.fst) hh (A:=Ma.new fuel) nf main;rw[show Ma.up e (Ma.new fuel)=Ma.new (fuel+e) from rfl]at hs;unfold zvQ at h ⊢;cases hq:(Ma.new fuel).start hf (cd.map Prod.fst) nf main with
 |none=>rw[hq]at h;cases h
 |some x=>
  have hx:=hs x hq;rw[hq]at h;cases x with
  |error j=>
   simp only[zxL]at h;subst h;rcases hx with hx|hx|hx
   ·subst hx;exact absurd rfl h4
   ·subst hx;exact absurd rfl h5
   ·rw[hx]
  |ok B=>
   have hx':(Ma.new (fuel+e)).start hf' (cd.map Prod.fst) nf main=some (.ok (B.up e)):=hx;rw[hx'];simp only at h ⊢;have hw:=zto (e:=e) (cd:=cd) hh g (A:=B);cases hq2:Ma.work hf cd g B with
   |none=>rw[hq2]at h;cases h
   |some y=>
    have hy:=hw y hq2;rw[hq2]at h;cases y with
    |error j=>
     simp only[zxL]at h;subst h;rcases hy with hy|hy|hy
     ·subst hy;exact absurd rfl h4
     ·subst hy;exact absurd rfl h5
     ·rw[hy]
    |ok C=>
     have hy':Ma.work hf' cd g (B.up e)=some (.ok (C.up e)):=hy;rw[hy'];exact h
end Ab
end Go.Proofs.YtgahgkddaljmkaaGreatDoor
namespace Go.Proofs.YtgahgkddaljmkaaGreatDoor
open Go.RowKit
namespace Th
theorem zon{wr wr':Ex->List (List UInt8)->List Nat}{P:Ex->Nat->Nat->Prop}{ar:List (List UInt8)}:∀ (l:List Tok) (es:List Ex) (lo hi:Nat) (seen:List (List UInt8)),zbc P lo hi l es->(∀ e∈es,∀ lo hi ar,P e lo hi->wr e ar=wr' e ar)->zbo wr ar seen l es=zbo wr' ar seen l es
 |[],[],_,_,_,_,_=>rfl
 |[],_::_,_,_,_,h,_=>h.elim
 |_::_,[],_,_,_,h,_=>h.elim
 |t::l,e::es,lo,hi,seen,⟨_,m,h1,h2⟩,hw=>by
  rw[zbo,zbo,hw e (by simp) _ _ ar h1,zon l es m hi _ h2 (fun x hx=>hw x (by simp[hx]))]
theorem zqn{wr wr':Ex->List (List UInt8)->List Nat}{P:Ex->Nat->Nat->Prop}{ar:List (List UInt8)}:∀ (l:List (Nat × List Tok)) (es:List Ex) (lo hi:Nat),zce P lo hi l es->(∀ e∈es,∀ lo hi ar,P e lo hi->wr e ar=wr' e ar)->zeC wr ar l es=zeC wr' ar l es
 |[],[],_,_,_,_=>rfl
 |[],_::_,_,_,h,_=>h.elim
 |_::_,[],_,_,h,_=>h.elim
 |t::l,e::es,lo,hi,⟨m1,m2,_,h1,h2⟩,hw=>by
  rw[zeC,zeC,hw e (by simp) _ _ _ h1,zqn l es m2 hi h2 (fun x hx=>hw x (by simp[hx]))]
theorem zow:∀ (N K:Nat) (e:Ex) (lo hi:Nat) (ar:List (List UInt8)),In N e lo hi->Cp.Dp K e->zar N e ar=zar K e ar
 |0,_,_,_,_,_,h,_=>h.elim
 |_+1,0,_,_,_,_,_,h=>h.elim
 |N+1,K+1,e,lo,hi,ar,h,hd=>by
  have ih:=fun (x:Ex) (hx:x∈e.kids) (lo hi:Nat) (ar:List (List UInt8)) (hi':In N x lo hi)=>zow N K x lo hi ar hi' (hd.2 x hx)
  rcases h.2 with hk|⟨hk,_⟩|⟨hk,b,m',k1,_,k2⟩|⟨hk,e1,e2,m',k1,k2,k3⟩|⟨hk,b,parts,m',k1,k2,k3⟩|⟨hk,b,bodies,m',k1,k2,k3⟩
  ·rw[zmg hk,zmg hk]
  ·rw[zsr hk,zsr hk]
  ·rw[ztp hk k1,ztp hk k1,ih b (by simp[k1]) _ _ _ k2]
  ·rw[zqt hk k1,zqt hk k1,ih e1 (by simp[k1]) _ _ _ k2,ih e2 (by simp[k1]) _ _ _ k3]
  ·rw[ztm hk k1,ztm hk k1,ih b (by simp[k1]) _ _ _ k3,zon _ _ _ _ _ k2 (fun x hx lo hi ar hP=>ih x (by simp[k1,hx]) lo hi ar hP)]
  ·rw[zpb hk k1,zpb hk k1,ih b (by simp[k1]) _ _ _ k2,zqn _ _ _ _ k3 (fun x hx lo hi ar hP=>ih x (by simp[k1,hx]) lo hi ar hP)]
theorem zoq{N K:Nat}{all:List (List UInt8)}:∀ (l:List zbq) (lo hi:Nat) (seen:List (List UInt8)),zbM N lo hi l->(∀ f∈l,Cp.Dp K f.e)->zbH N all seen l=zbH K all seen l
 |[],_,_,_,_,_=>rfl
 |x::l,lo,hi,seen,⟨_,m1,m2,_,h1,h2⟩,hd=>by
  rw[zbH,zbH,zow N K x.e _ _ _ h1 (hd x (by simp)),zoq l _ _ _ h2 (fun f hf=>hd f (by simp[hf]))]
end Th
def zoV (s:ByteArray):Option (List Th.zbq × Th.St):=Th.zcG (Th.zei 1000) 1000 [] ⟨zaB s,none⟩
theorem zjN(s:ByteArray)(hs:s.size<=600):∃ q N,zoV s=some q/\Plain s q N:=by
 have hr:Th.zcx 0 (s.size+1) (zaB s):=by
  have:=Th.zhp (s.size+1) s.data.toList 0;rw[zy9,zyC]at this;exact this
 have hl:=hr.len;obtain ⟨q,h1,h2⟩:=Th.zjq (Th.zmJ 1000) 1000 [] ⟨zaB s,none⟩ ⟨zaB s,none⟩ ⟨Th.Step.refl _,fun lo M hr _=>⟨0,lo,zxJ _,hr⟩⟩ (by show (zaB s).length+1<1000;omega) (by show (zaB s).length+1+1<1000;omega);by_cases hb:q.2.bad=none
 ·obtain ⟨N,m,i1,i2⟩:=h2.inn 0 (s.size+1) hr hb;have:=i2.len;exact ⟨q,N,h1,zee s hs,Th.zlP _ _ _,⟨1000,1000,by omega,by omega,h1⟩,fun _=>⟨0,m,i1,by omega⟩⟩
 ·exact ⟨q,0,h1,zee s hs,Th.zlP _ _ _,⟨1000,1000,by omega,by omega,h1⟩,fun h=>absurd h hb⟩
variable {s:ByteArray}
variable {q:List Th.zbq × Th.St}
variable {N:Nat}
theorem zuR(hs:s.size<=600)(hp:Plain s q N)(hb:q.2.bad=none):∀ f∈q.1,Cp.Dp 1300 f.e:=by
 obtain ⟨n,k,_,_,hq⟩:=hp.lines;have hl:=Th.zfn (s.size+1) s.data.toList 0;have hz:s.data.toList.length=s.size:=by rw[zy9];rfl
 rw[hz]at hl;have hlt:(zaB s).length<=s.size+1:=hl;obtain ⟨m,w1,w2⟩:=Th.zgg k [] _ ⟨zaB s,none⟩ q hq (zqq hp.zcr) (fun _=>⟨0,by simp,0,by simp,by simp⟩) hb;simp only at w2;have hwt:∀ f∈q.1,Cp.wt m f.e<=1300:=fun f hf=>by have:=Th.zhF (fun f=>Cp.wt m f.e+f.params.length+1) hf;omega
 exact fun f hf=>(Th.zwR (w1 f hf).1).le (hwt f hf)
theorem ztu(hs:s.size<=600)(hp:Plain s q N):answer s.size q N=answer s.size q 1300:=by
 unfold answer;cases hb:q.2.bad with
 |some p=>rfl
 |none=>
  obtain ⟨lo,hi,hin,_⟩:=hp.within hb;rw[Th.zoq q.1 lo hi [] hin (zuR hs hp hb)]
def zex (s:ByteArray) (heap fuel:Int) (r:Ab.zr1) (c:Int):Prop:=∀ w:World,
 Calls Tryz.prog 25 #[.string s,.int .i64 heap,.int .i64 fuel] w fun e w'=>e=.returned (.tuple #[ziH r.1 r.2.1 r.2.2.1 r.2.2.2,.int .i64 c])/\Fr (fun _=>False) w w'
noncomputable abbrev runL (l:List Th.zbq) (heap fuel:Int):Nat->Option Ab.zr1:=Ab.zvQ (zcm heap 262144/2) (Cp.program 1300 l) l.length ((Th.zaq l).idxOf Th.zdn) (zcm fuel 4000000)
theorem zp9(x:Int)(m:Nat):zcm x m<=m:=by unfold zcm;omega
theorem zlE{x y:Int}(h:x<=y)(m:Nat):zcm x m<=zcm y m:=by unfold zcm;omega
variable {heap fuel:Int}
variable {r:Ab.zr1}
theorem zj5(hs:s.size<=600)(hp:Plain s q N)(h0:(answer s.size q N).1=0)(h:Ab.Sure (runL q.1 heap fuel) r):zex s heap fuel r 0:=by
 obtain ⟨c,hc⟩:=h;have h1:=hc 0;rw[zyC]at h1;have:=zp9 heap 262144;exact fun w=>zuV hs hp h0 heap fuel (g:=c) (fun pv=>Ab.zsd (by omega) h1) w
theorem zpL(s:ByteArray){heap' fuel':Int}(hh:heap<=heap')(hf:fuel<=fuel'):
  ∃ r r' c,zex s heap fuel r c/\zex s heap' fuel' r' c/\(c≠0->r=(0,0,0,0)/\r'=(0,0,0,0))/\(c=0->r=(4,0,0,0)\/r=(5,0,0,0)\/r=r'):=by
 by_cases hs:s.size<=600
 ·obtain ⟨q,N,_,hp⟩:=zjN s hs;by_cases h0:(answer s.size q N).1=0
  ·have ho:=zlV hs hp h0;obtain ⟨r,hr⟩:=Sf.zj7 ho (zcm heap 262144/2) (zcm fuel 4000000);obtain ⟨r',hr'⟩:=Sf.zj7 ho (zcm heap' 262144/2) (zcm fuel' 4000000);refine ⟨r,r',0,zj5 hs hp h0 hr,zj5 hs hp h0 hr',fun h=>absurd rfl h,fun _=>?_⟩;by_cases h4:r=(4,0,0,0)
   ·exact .inl h4
   ·by_cases h5:r=(5,0,0,0)
    ·exact .inr (.inl h5)
    ·refine .inr (.inr ?_);obtain ⟨c,hc⟩:=hr;obtain ⟨c',hc'⟩:=hr';have h1:=Ab.zpz (hf:=zcm heap 262144/2) (hf':=zcm heap' 262144/2) (by have:=zlE hh 262144;omega) (zlE hf 4000000) (hc c') h4 h5;rw[Nat.add_comm,hc']at h1;cases h1;rfl
  ·refine ⟨(0,0,0,0),(0,0,0,0),_,fun w=>zsy hs hp h0 heap fuel w,fun w=>zsy hs hp h0 heap' fuel' w,fun _=>⟨rfl,rfl⟩,fun h=>absurd (by omega) h0⟩
 ·exact ⟨(0,0,0,0),(0,0,0,0),1,fun w=>zol (by omega) heap fuel w,fun w=>zol (by omega) heap' fuel' w,fun _=>⟨rfl,rfl⟩,fun h=>by omega⟩
theorem zi5{cd:List (Nat × List Ins)}(c:Nat):∀ (g:Nat) (m:MSt) (q:Except Nat MSt),MSt.work cd g m=some q->MSt.work cd (g+c) m=some q
 |0,_,_,h=>by simp[MSt.work]at h
 |g+1,m,q,h=>by
  rw[show g+1+c=(g+c)+1 by omega];rw[MSt.work]at h ⊢;split at h
  ·next h1=>rw[if_pos h1];exact h
  ·next h1=>
   rw[if_neg h1];split at h
   ·cases h
   ·next h2=>
    rw[if_neg h2];split at h
    ·cases h
    ·split at h
     ·cases h
     ·exact h
     ·next m2 hk=>exact zi5 c g m2 q h
theorem ztB(pv:Value)(cd:List (Nat × List Ins))(nf main words fu g c:Nat)(r:Ab.zr1)(h:runM pv cd nf main words fu g=some r):runM pv cd nf main words fu (g+c)=some r:=by
 unfold runM at h ⊢;split at h
 ·cases h
 ·exact h
 ·next m1 hk=>
  split at h
  ·cases h
  ·next k hw=>rw[zi5 c g m1 _ hw];exact h
  ·next m2 hw=>rw[zi5 c g m1 _ hw];exact h
variable {g:Nat}
theorem zr9{words fu:Nat}(hs:s.size<=600)(hq:zoV s=some q)(h0:(answer s.size q 1300).1=0)(hr:runM (.int .i64 0) (Cp.program 1300 q.1) q.1.length ((Th.zaq q.1).idxOf Th.zdn) words fu g=some r)(h4:r≠(4,0,0,0))(h5:r≠(5,0,0,0))(hw:words<=zcm heap 262144)(hf:fu<=zcm fuel 4000000):zex s heap fuel r 0:=by
 obtain ⟨q',N,e1,hp⟩:=zjN s hs;rw[hq]at e1;cases e1;rw[<-ztu hs hp]at h0;have ho:=zlV hs hp h0;have:=zp9 heap 262144;obtain ⟨r',c,hc⟩:=Sf.zj7 ho (words/2) fu;have h1:=Ab.zsd (pv:=.int .i64 0) (words:=words) (by omega) (hc g);have hrr:r'=r:=by
  have h2:=hr;have h3:=ztB (.int .i64 0) (Cp.program 1300 q.1) q.1.length ((Th.zaq q.1).idxOf Th.zdn) words fu g c r h2;rw[h3]at h1;cases h1;rfl
 subst hrr;have h2:=Ab.zpz (hf:=words/2) (hf':=zcm heap 262144/2) (by omega) hf (hc 0) h4 h5;refine zj5 hs hp h0 ⟨c,fun k=>?_⟩;exact Ab.zpz (hf:=words/2) (hf':=zcm heap 262144/2) (by omega) hf (hc k) h4 h5
end Go.Proofs.YtgahgkddaljmkaaGreatDoor
namespace Go.Proofs.YtgahgkddaljmkaaGreatDoor
def zsW (s:ByteArray) (words fu g:Nat) (r:Ab.zr1):Bool:=
 match zoV s with
 |none=>false
 |some q=>(answer s.size q 1300).1 == 0 && (runM (.int .i64 0) (Cp.program 1300 q.1) q.1.length ((Th.zaq q.1).idxOf Th.zdn) words fu g == some r)
variable {s:ByteArray}
variable {g:Nat}
variable {r:Ab.zr1}
variable {heap fuel:Int}
theorem zhB{words fu:Nat}(h:zsW s words fu g r=true)(hs:s.size<=600)(h4:r≠(4,0,0,0))(h5:r≠(5,0,0,0))(hw:words<=zcm heap 262144)(hf:fu<=zcm fuel 4000000):zex s heap fuel r 0:=by
 unfold zsW at h;split at h
 ·cases h
 ·next q hq=>
  rw[zyx]at h;exact zr9 hs hq (by simpa using h.1) (by simpa using h.2) h4 h5 hw hf
def wk0:ByteArray:=⟨#[107,32,120,32,121,32,61,32,120,59,32,109,97,105,110,32,61,32,107,32,52,32,40,49,32,47,32,48,41,59]⟩
theorem zu6:zsW wk0 100 60 30 (1,4,0,0)=true:=by kernel_rfl
theorem zu9:zex wk0 262144 4000000 (1,4,0,0) 0:=zhB zu6 (by decide) (by decide) (by decide) (by decide) (by decide)
def wk1:ByteArray:=⟨#[109,97,105,110,32,61,32,123,55,44,50,125,32,40,49,32,47,32,48,41,32,51,59]⟩
theorem zu0:zsW wk1 100 60 30 (2,0,7,2)=true:=by kernel_rfl
theorem zvI:zex wk1 262144 4000000 (2,0,7,2) 0:=zhB zu0 (by decide) (by decide) (by decide) (by decide) (by decide)
def wk2:ByteArray:=⟨#[109,97,105,110,32,61,32,49,32,47,32,48,59]⟩
theorem zvq:zsW wk2 100 60 30 (3,0,0,0)=true:=by kernel_rfl
theorem zup:zex wk2 262144 4000000 (3,0,0,0) 0:=zhB zvq (by decide) (by decide) (by decide) (by decide) (by decide)
end Go.Proofs.YtgahgkddaljmkaaGreatDoor
namespace Go.Proofs.YtgahgkddaljmkaaGreatDoor
open Go.RowKit
attribute [local go_sem ↓] Go.wp_at_zero Go.wp_at_succ
theorem ztw(w:World):
  Calls Tryz.prog 20 #[] w fun e w'=>e=.returned (.bool true)/\Fr (fun _=>False) w w':=by
 have H0:=zu9;have H1:=zvI;have H2:=zup;unfold zex wk0 ziH at H0;unfold zex wk1 ziH at H1;unfold zex wk2 ziH at H2;have K0:=zab H0;have K1:=zab H1;have K2:=zab H2;clear H0 H1 H2;go_enter Tryz.func20,Tryz.ntmps20
 go_wp2_with fail
 refine (K0.o _).mono ?_;rintro e w1 ⟨rfl,f1⟩;have F1:=zab (f1.alloc (.cells #[.int .i64 1,.int .i64 4,.int .i64 0,.int .i64 0] 35));have B1:=zab (Blk.new w1 [.int .i64 1,.int .i64 4,.int .i64 0,.int .i64 0] 35);clear f1;go_wp2_with fail
 refine (K1.o _).mono ?_;rintro e w2 ⟨rfl,f2⟩;have F2:=zab ((F1.o.trans f2).alloc (.cells #[.int .i64 2,.int .i64 0,.int .i64 7,.int .i64 2] 35));have B2:=zab (Blk.new w2 [.int .i64 2,.int .i64 0,.int .i64 7,.int .i64 2] 35);have B12:=zab (Fr.blk B1.o (f2.alloc (.cells #[.int .i64 2,.int .i64 0,.int .i64 7,.int .i64 2] 35)) (by simp));clear f2;go_wp2_with fail
 refine (K2.o _).mono ?_;rintro e w3 ⟨rfl,f3⟩;have F3:=zab ((F2.o.trans f3).alloc (.cells #[.int .i64 3,.int .i64 0,.int .i64 0,.int .i64 0] 35));have b3:=Blk.new w3 [.int .i64 3,.int .i64 0,.int .i64 0,.int .i64 0] 35;have b23:=Fr.blk B2.o (f3.alloc (.cells #[.int .i64 3,.int .i64 0,.int .i64 0,.int .i64 0] 35)) (by simp);have b13:=Fr.blk B12.o (f3.alloc (.cells #[.int .i64 3,.int .i64 0,.int .i64 0,.int .i64 0] 35)) (by simp);have c10:=b13.cell 0;have c11:=b13.cell 1;have c12:=b13.cell 2;have c13:=b13.cell 3;have c20:=b23.cell 0;have c21:=b23.cell 1;have c22:=b23.cell 2;have c23:=b23.cell 3;have c30:=b3.cell 0;have c31:=b3.cell 1;have c32:=b3.cell 2;have c33:=b3.cell 3;simp at c10 c11 c12 c13 c20 c21 c22 c23 c30 c31 c32 c33;clear f3 b3 b23 b13;go_wp2_with fail
 go_ret
 exact ⟨rfl,F3.o⟩
def zmL (c n:Int):Int:=(if c<0 then -(c+1) else c)%n
theorem ziG{c n:Int}(hn:0<n):0<=zmL c n/\zmL c n<n:=⟨Int.emod_nonneg _ (by omega),Int.emod_lt_of_pos _ hn⟩
theorem ziL{c n:Int}(h1:-9223372036854775808<=c)(h2:c<=9223372036854775807)(hn:0<n)(hn2:n<=9223372036854775807)(w:World):
  Calls Tryz.prog 23 #[.int .i64 c,.int .i64 n] w fun e w'=>e=.returned (.int .i64 (zmL c n))/\w'=w:=by
 by_cases hc:c<0
 ·go_enter Tryz.func23,Tryz.ntmps23
  go_wp2_with fail
  go_ret
  refine ⟨?_,rfl⟩;unfold zmL;rw[if_pos hc,<-Int.neg_tmod,Int.tmod_eq_emod_of_nonneg (by omega)];rfl
 ·go_enter Tryz.func23,Tryz.ntmps23
  go_wp2_with fail
  go_ret
  refine ⟨?_,rfl⟩;unfold zmL;rw[if_neg (by omega)];rfl
theorem zrt(r:Ab.zr1)(w:World):
  Calls Tryz.prog 26 #[ziH r.1 r.2.1 r.2.2.1 r.2.2.2] w fun e w'=>e=.returned (.bool (decide (r=(4,0,0,0)\/r=(5,0,0,0))))/\Fr (fun _=>False) w w':=by
 obtain ⟨k,n,t,a⟩:=r;unfold ziH;go_enter Tryz.func26,Tryz.ntmps26
 go_wp2_with fail
 all_goals
  go_ret
  refine ⟨?_,(Fr.refl _ _).alloc _⟩;simp[*]
variable {heap fuel:Int}
theorem zrd(s:ByteArray){more longer:Int}(h1:-9223372036854775808<=heap)(h2:heap<=9223372036854775807)(h3:-9223372036854775808<=fuel)(h4:fuel<=9223372036854775807)(h5:-9223372036854775808<=more)(h6:more<=9223372036854775807)(h7:-9223372036854775808<=longer)(h8:longer<=9223372036854775807)(w:World):
  Calls Tryz.prog 10 #[.string s,.int .i64 heap,.int .i64 fuel,.int .i64 more,.int .i64 longer] w fun e w'=>e=.returned (.bool true)/\Fr (fun _=>False) w w':=by
 have P1:=ziL h1 h2 (n:=3000) (by omega) (by omega);have P2:=ziL h3 h4 (n:=20000) (by omega) (by omega);have P3:=ziL h5 h6 (n:=5000) (by omega) (by omega);have P4:=ziL h7 h8 (n:=20000) (by omega) (by omega);obtain ⟨a1,a2⟩:=ziG (c:=heap) (n:=3000) (by omega);obtain ⟨a3,a4⟩:=ziG (c:=fuel) (n:=20000) (by omega);obtain ⟨a5,a6⟩:=ziG (c:=more) (n:=5000) (by omega);obtain ⟨a7,a8⟩:=ziG (c:=longer) (n:=20000) (by omega);generalize zmL heap 3000=hp at *;generalize zmL fuel 20000=fu at *;generalize zmL more 5000=mo at *;generalize zmL longer 20000=lo at *;obtain ⟨r,r',c,R1,R2,hc1,hc2⟩:=zpL s (heap:=hp) (heap':=hp+mo) (fuel:=fu) (fuel':=fu+lo) (by omega) (by omega);have RO:=zrt r;obtain ⟨k,n,t,a⟩:=r;obtain ⟨k',n',t',a'⟩:=r';unfold zex ziH at R1 R2;unfold ziH at RO;have W:=zab ztw;have Q1:=zab P1;have Q2:=zab P2;have Q3:=zab P3;have Q4:=zab P4;have K1:=zab R1;have K2:=zab R2;have KO:=zab RO;have C1:=zab hc1;have C2:=zab hc2;clear P1 P2 P3 P4 R1 R2 RO hc1 hc2 h1 h2 h3 h4 h5 h6 h7 h8;go_enter Tryz.func10,Tryz.ntmps10
 go_wp2_with fail
 refine (W.o _).mono ?_;rintro e w1 ⟨rfl,f1⟩;have F1:=zab f1;clear f1;go_wp2_with fail
 refine (Q1.o _).mono ?_;rintro e w2 ⟨rfl,rfl⟩;go_wp2_with fail
 refine (Q2.o _).mono ?_;rintro e w3 ⟨rfl,rfl⟩;go_wp2_with fail
 refine (K1.o _).mono ?_;rintro e w4 ⟨rfl,f4⟩;have F4:=zab ((F1.o.trans f4).alloc (.cells #[.int .i64 k,.int .i64 n,.int .i64 t,.int .i64 a] 35));have B4:=zab (Blk.new w4 [.int .i64 k,.int .i64 n,.int .i64 t,.int .i64 a] 35);clear f4;go_wp2_with fail
 refine (Q3.o _).mono ?_;rintro e w5 ⟨rfl,rfl⟩;go_wp2_with fail
 refine (Q4.o _).mono ?_;rintro e w6 ⟨rfl,rfl⟩;go_wp2_with fail
 refine (K2.o _).mono ?_;rintro e w7 ⟨rfl,f7⟩;have F7:=zab ((F4.o.trans f7).alloc (.cells #[.int .i64 k',.int .i64 n',.int .i64 t',.int .i64 a'] 35));have b7:=Blk.new w7 [.int .i64 k',.int .i64 n',.int .i64 t',.int .i64 a'] 35;have b47:=Fr.blk B4.o (f7.alloc (.cells #[.int .i64 k',.int .i64 n',.int .i64 t',.int .i64 a'] 35)) (by simp);have c40:=b47.cell 0;have c41:=b47.cell 1;have c42:=b47.cell 2;have c43:=b47.cell 3;have c70:=b7.cell 0;have c71:=b7.cell 1;have c72:=b7.cell 2;have c73:=b7.cell 3;simp at c40 c41 c42 c43 c70 c71 c72 c73;have B7:=zab b7;have B47:=zab b47;clear f7 b7 b47;by_cases hc:c=0
 ·subst hc;have hor:=C2.o rfl;have HOR:=zab hor;clear hor;go_wp2_with fail
  refine (KO.o _).mono ?_;rintro e w8 ⟨rfl,f8⟩;have F8:=zab (F7.o.trans f8);have b8:=Fr.blk B7.o f8 (by simp);have b48:=Fr.blk B47.o f8 (by simp);have d40:=b48.cell 0;have d41:=b48.cell 1;have d42:=b48.cell 2;have d43:=b48.cell 3;have d70:=b8.cell 0;have d71:=b8.cell 1;have d72:=b8.cell 2;have d73:=b8.cell 3;simp at d40 d41 d42 d43 d70 d71 d72 d73;clear f8 b8 b48;by_cases ho:(k,n,t,a)=((4,0,0,0):Ab.zr1)\/(k,n,t,a)=((5,0,0,0):Ab.zr1)
  ·rw[decide_eq_true ho];clear ho;go_wp2_with fail
   all_goals
    go_ret
    exact ⟨rfl,F8.o⟩
  ·rw[decide_eq_false ho];have hrr:(k,n,t,a)=(k',n',t',a'):=by
    rcases HOR.o with h|h|h
    ·exact absurd (.inl h) ho
    ·exact absurd (.inr h) ho
    ·exact h
   cases hrr;clear ho;go_wp2_with fail
   all_goals
    go_ret
    exact ⟨rfl,F8.o⟩
 ·obtain ⟨e1,e2⟩:=C1.o hc;cases e1;cases e2;go_wp2_with fail
  all_goals
   go_ret
   exact ⟨rfl,F7.o⟩
end Go.Proofs.YtgahgkddaljmkaaGreatDoor
