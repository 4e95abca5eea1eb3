/- Plain3 .. Gc5 -/
import Derived.Test.YtgahgkddaljmkaaGreatDoorV13
import Derived.Test.YtgahgkddaljmkaaGreatDoorV12
set_option maxRecDepth 100000
set_option maxHeartbeats 4000000
namespace Go.Proofs.YtgahgkddaljmkaaGreatDoor.Th
open Tryz
variable {st:St}
theorem zhF(h:NN st=true):st.bad=none:=by
 unfold NN at h;simp only[U7]at h;rcases h with((h|h)|h)|h
 .exact(Xd h).1
 .exact(Xd h).1
 .exact(Ri h).1
 .exact(Ri h).1
theorem ztD(h:st.bad=none):0<mu st:=by simp[mu,h]
theorem VC(h:Step 1 st st.qM)(hb:st.bad=none):mu st.qM+1<=mu st:=by have:=ztD hb;rcases h.mu with h|h<;>omega
theorem zn7{n:Nat}{ex:Rd}(hx:Qd n ex):∀(k:Nat)(e:Ex)(eO st:St),MK 0 eO e st->mu st<k->mu st<n->∃r,Of ex k e st=some r/\MK 0 eO r.1 r.2
 |0,_,_,_,_,h,_=>absurd h (T7 _)
 |k+1,e,eO,st,hf,hk,hn=>by
  unfold Of;split
  .rename_i hb;have bp:=ztD (zhF hb);obtain⟨r,h1,h2⟩:=zqN hx hn;rw[h1];exact zn7 hx k (M5 e r.1) eO r.2 ((zml (.inl rfl) rfl hf h2).Oj (by omega)) (by rcases h2.step.mu with h|h<;>omega) (by have:=h2.step.le;omega)
  .exact⟨_,rfl,hf⟩
variable {n:Nat}{ex:Rd}
theorem zqO(hx:Qd n ex){k:Nat}(hk:mu st<k)(hn:mu st<n):∃r,OZ ex k st=some r/\MK 0 st r.1 r.2:=by unfold OZ;obtain⟨r,h1,h2⟩:=zqN hx hn;rw[h1];have:=h2.step.le;exact zn7 hx k r.1 st r.2 (h2.Oj (by omega)) (by omega) (by omega)
theorem zpI{n:Nat}{sub:St->Option (Ex × St)}(hs:∀st,mu st<n->∃r,sub st=some r/\MK 0 st r.1 r.2){a b:List UInt8}(ha:a≠[])(hb:b≠[]):∀(k:Nat)(e:Ex)(eO st:St),MK 0 eO e st->mu st<k->mu st<n->∃r,Nk sub a b k e st=some r/\MK 0 eO r.1 r.2
 |0,_,_,_,_,h,_=>absurd h (T7 _)
 |k+1,e,eO,st,hf,hk,hn=>by
  unfold Nk;split
  .rename_i hc;simp only[U7]at hc;have h1:Step 1 st st.qM:=by
    rcases hc with h|h
    .exact QD h ha
    .exact QD h hb
   have h0:st.bad=none:=by
    rcases hc with h|h
    .exact(Ri h ha).1
    .exact(Ri h hb).1
   have hm:=VC h1 h0;obtain⟨r,h2,h3⟩:=hs st.qM (by omega);rw[h2];have:=h3.step.le;exact zpI hs ha hb k (JF st.hd e r.1) eO r.2 ((zml (.inr rfl) rfl hf (MK.pre h1 h3)).Oj (by omega)) (by omega) (by omega)
  .exact⟨_,rfl,hf⟩
theorem zjC(hx:Qd n ex)(hn:mu st<n):∃r,Px ex n st=some r/\MK 0 st r.1 r.2:=by unfold Px;obtain⟨r,h1,h2⟩:=zqO hx hn hn;rw[h1];have:=h2.step.le;exact zpI (λst h=>zqO hx h h) (by simp) (by simp) n r.1 st r.2 h2 (by omega) (by omega)
theorem ztS(hx:Qd n ex)(hn:mu st<n):∃r,PD ex n st=some r/\MK 0 st r.1 r.2:=by unfold PD;obtain⟨r,h1,h2⟩:=zjC hx hn;rw[h1];have:=h2.step.le;exact zpI (λst h=>zjC hx h) (by simp) (by simp) n r.1 st r.2 h2 (by omega) (by omega)
theorem zv1(hx:Qd n ex)(hn:mu st<n):∃r,Py ex n st=some r/\MK 0 st r.1 r.2:=by
 unfold Py;obtain⟨r,h1,h2⟩:=ztS hx hn;rw[h1];have hle:=h2.step.le;simp only[NW];split
 .rename_i hc;simp only[U7]at hc;have h3:Step 1 r.2 r.2.qM:=by
   rcases hc with h|h
   .exact QD h (by simp)
   .exact QD h (by simp)
  have:=h3.le;obtain⟨q,h4,h5⟩:=ztS hx (st:=r.2.qM) (by omega);rw[h4];exact⟨_,rfl,(zml (.inr rfl) rfl h2 (MK.pre h3 h5)).Oj (by omega)⟩
 .exact⟨_,rfl,h2⟩
theorem Oc.snoc{P:Ex->Nat->Nat->Prop}:∀{lo m hi:Nat}{l:List Tok}{es:List Ex}{t:Tok}{e:Ex},Oc P lo m l es->m<=t.at_->P e (t.at_+1) hi->Oc P lo hi (l++[t]) (es++[e])
 |_lo,_m,hi,[],[],_t,_e,h,hm,he=>⟨yM h hm,hi,he,qP _⟩
 |_lo,_m,_hi,_::_,_::_,_t,_e,⟨h1,m1,h2,h3⟩,hm,he=>⟨h1,m1,h2,Oc.snoc h3 hm he⟩
 |_,_,_,[],_::_,_,_,h,_,_=>h.elim
 |_,_,_,_::_,[],_,_,h,_,_=>h.elim
theorem OW.snoc{P:Ex->Nat->Nat->Prop}:∀{lo m m1 hi:Nat}{l:List (Nat × List Tok)}{es:List Ex}{a:Nat × List Tok}{e:Ex},OW P lo m l es->Me (m+1) m1 a.2->P e m1 hi->OW P lo hi (l++[a]) (es++[e])
 |lo,m,m1,hi,[],[],a,e,h,hm,he=>⟨m1,hi,hm.down (by have h':lo<=m:=h;omega),he,qP _⟩
 |lo,m,m1,hi,_::_,_::_,a,e,⟨x,y,h1,h2,h3⟩,hm,he=>⟨x,y,h1,h2,OW.snoc h3 hm he⟩
 |_,_,_,_,[],_::_,_,_,h,_,_=>h.elim
 |_,_,_,_,_::_,[],_,_,h,_,_=>h.elim
structure Zn (st:St) (l:List Tok) (es:List Ex) (st':St):Prop where
 step:Step 0 st st'
 Oh:∀lo M,Me lo M st.rest->st'.bad=none->∃N m,Oc (In N) lo m l es/\Me m M st'.rest
theorem zn6{n:Nat}{ex:Rd}(hx:Qd n ex):∀(k:Nat)(l:List Tok)(es:List Ex)(eO st:St),Zn eO l es st->mu st<k->mu st+1<n->∃r,NH ex k l es st=some r/\Zn eO r.1 r.2.1 r.2.2
 |0,_,_,_,_,_,h,_=>absurd h (T7 _)
 |k+1,l,es,eO,st,hf,hk,hn=>by
  unfold NH;have s1:=zhX st;have s2:=QP (s:=[61]) (by simp) (IG st).2;have l1:=s1.le;have l2:=s2.le;obtain⟨r,h1,h2⟩:=hx true (want [61] (IG st).2) (by omega);have l3:=h2.step.le;have hB:Zn eO (l++[(IG st).1]) (es++[r.1]) r.2:=by refine⟨((hf.step.trans s1).trans (s2.trans h2.step)).Oj (by omega),λlo M hr hb=>?_⟩;have b2:=h2.step.bad hb;have b1:=s2.bad b2;obtain⟨N,m,i1,i2⟩:=hf.Oh lo M hr (s1.bad b1);obtain⟨j1,j2⟩:=zmF i2 b1;obtain⟨N2,hi,k1,k2⟩:=h2.Oh _ M (s2.PA _ M j2 b2) hb;exact⟨max N N2,hi,(i1.imp (λe a b h=>h.mono (Wm _ _))).snoc j1 ((k1.mono (Wo _ _)).down (by omega)),k2⟩
  simp only[h1,NW];split
  .rename_i hc;have s3:=QD hc (by simp);have m3:=VC s3 (Ri hc).1;exact zn6 hx k _ _ eO r.2.qM ⟨(hB.step.trans s3).Oj (by omega),λlo M hr hb=>by obtain⟨N,m,i1,i2⟩:=hB.Oh lo M hr (s3.bad hb);exact⟨N,m,i1,(s3.PA _ M i2 hb).down (by omega)⟩⟩ (by omega) (by omega)
  .exact⟨_,rfl,hB⟩
theorem zs5(st:St):Zn st [] [] st:=⟨Step.refl st,λlo _M hr _=>⟨0,lo,qP _,hr⟩⟩
theorem zxE(hx:Qd n ex)(outer:Bool)(hn:mu st+1<n):∃r,Qv ex n outer st=some r/\MK 0 st r.1 r.2:=by
 unfold Qv;have hs:Step 0 st (if st.is Na then st.qM else st):=by
  split
  .rename_i h;exact(QD h (by simp[Na])).Oj (by omega)
  .exact Step.refl st
 have hl:=hs.le;obtain⟨r,h1,h2⟩:=zn6 hx n [] [] (if st.is Na then st.qM else st) (if st.is Na then st.qM else st) (zs5 _) (by omega) (by omega);have s3:=QP (s:=Mx) (by simp[Mx]) r.2.2;have l2:=h2.step.le;have l3:=s3.le;obtain⟨q,h4,h5⟩:=hx outer (want Mx r.2.2) (by omega);simp only[h1,h4,NW];refine⟨_,rfl,((hs.trans h2.step).trans (s3.trans h5.step)).Oj (by omega),λlo M hr hb=>?_⟩;have b5:=h5.step.bad hb;have b3:=s3.bad b5;obtain⟨N,m,i1,i2⟩:=h2.Oh lo M ((hs.PA lo M hr (h2.step.bad b3)).down (by omega)) b3;obtain⟨N2,hi,k1,k2⟩:=h5.Oh _ M (s3.PA _ M i2 b5) hb;refine⟨max N N2+1,hi,⟨?_,.inr (.inr (.inr (.inr (.inl ⟨?_,q.1,r.2.1,m,rfl,i1.imp (λe a b h=>h.mono (Wm _ _)),(k1.mono (Wo _ _)).down (by omega)⟩))))⟩,k2⟩
 .have:=i1.len;have:=k1.le;omega
 .show(if _ then 8 else 7)=7\/(if _ then 8 else 7)=8;split
  .exact .inr rfl
  .exact .inl rfl
structure Zm (st:St) (l:List (Nat × List Tok)) (es:List Ex) (st':St):Prop where
 step:Step 0 st st'
 Oh:∀lo M,Me lo M st.rest->st'.bad=none->∃N m,OW (In N) lo m l es/\Me m M st'.rest
theorem zxC(hx:Qd n ex)(outer:Bool)(hn:mu st+1<n):
  ∃r,PC ex outer st=some r/\Step 0 st r.2.2/\∀lo M,Me lo M st.rest->r.2.2.bad=none->∃N m hi,Me (lo+1) m r.1.2/\In N r.2.1 m hi/\Me hi M r.2.2.rest:=by
 unfold PC;have s1:=QP (s:=[60]) (by simp) st;have s2:=ze0 1 99 (want [60] st);have s3:=QP (s:=[62]) (by simp) (Kv 1 99 (want [60] st)).2;have pz:=(s1.trans s2).trans s3;have s4:=zgu (want [62] (Kv 1 99 (want [60] st)).2);have s5:=QP (s:=[45,62]) (by simp) (JR (want [62] (Kv 1 99 (want [60] st)).2)).2;have l1:=pz.le;have l4:=s4.le;have l5:=s5.le;obtain⟨r,h1,h2⟩:=hx outer (want [45,62] (JR (want [62] (Kv 1 99 (want [60] st)).2)).2) (by omega);simp only[h1,NW];refine⟨_,rfl,((pz.trans s4).trans (s5.trans h2.step)).Oj (by omega),λlo M hr hb=>?_⟩;have b5:=h2.step.bad hb;have b4:=s5.bad b5;obtain⟨m,i1,i2⟩:=Yy (pz.PA lo M hr (s4.bad b4)) b4;obtain⟨N,hi,k1,k2⟩:=h2.Oh _ M (s5.PA _ M i2 b5) hb;exact⟨N,m,hi,i1.down (by omega),k1.down (by omega),k2⟩
theorem zqL{n:Nat}{ex:Rd}(hx:Qd n ex)(outer:Bool):∀(k:Nat)(l:List (Nat × List Tok))(es:List Ex)(eO st:St),Zm eO l es st->mu st<k->mu st+1<n->∃r,NI ex outer k l es st=some r/\Zm eO r.1 r.2.1 r.2.2
 |0,_,_,_,_,_,h,_=>absurd h (T7 _)
 |k+1,l,es,eO,st,hf,hk,hn=>by
  unfold NI;obtain⟨r,h1,h2,h3⟩:=zxC hx outer hn;have l2:=h2.le;have hA:Zm eO (l++[r.1]) (es++[r.2.1]) r.2.2:=by refine⟨(hf.step.trans h2).Oj (by omega),λlo M hr hb=>?_⟩;obtain⟨N,m,i1,i2⟩:=hf.Oh lo M hr (h2.bad hb);obtain⟨N2,m1,hi,j1,j2,j3⟩:=h3 m M i2 hb;exact⟨max N N2,hi,(i1.imp (λe a b h=>h.mono (Wm _ _))).snoc j1 (j2.mono (Wo _ _)),j3⟩
  simp only[h1,NW];split
  .rename_i hc;unfold NL at hc;simp only[OR]at hc;have s3:=QD hc.1 (by simp);have m3:=VC s3 (Ri hc.1).1;exact zqL hx outer k _ _ eO r.2.2.qM ⟨(hA.step.trans s3).Oj (by omega),λlo M hr hb=>by obtain⟨N,m,i1,i2⟩:=hA.Oh lo M hr (s3.bad hb);exact⟨N,m,i1,(s3.PA _ M i2 hb).down (by omega)⟩⟩ (by omega) (by omega)
  .exact⟨_,rfl,hA⟩
theorem zs4(st:St):Zm st [] [] st:=⟨Step.refl st,λlo _M hr _=>⟨0,lo,qP _,hr⟩⟩
theorem zvY(hx:Qd n ex)(outer:Bool)(hn:mu st+1<n):∃r,Qr ex n outer st=some r/\MK 0 st r.1 r.2:=by unfold Qr;obtain⟨r,h1,h2⟩:=hx false st hn;have s3:=QP (s:=Nt) (by simp[Nt]) r.2;have l2:=h2.step.le;have l3:=s3.le;obtain⟨q,h4,h5⟩:=zqL hx outer n [] [] (want Nt r.2) (want Nt r.2) (zs4 _) (by omega) (by omega);simp only[h1,h4,NW];refine⟨_,rfl,(h2.step.trans (s3.trans h5.step)).Oj (by omega),λlo M hr hb=>?_⟩;have b5:=h5.step.bad hb;obtain⟨N,m,i1,i2⟩:=h2.Oh lo M hr (s3.bad b5);obtain⟨N2,hi,k1,k2⟩:=h5.Oh m M ((s3.PA _ M i2 b5).down (by omega)) hb;refine⟨max N N2+1,hi,⟨?_,.inr (.inr (.inr (.inr (.inr ⟨rfl,r.1,q.2.1,m,rfl,i1.mono (Wm _ _),k1.imp (λe a b h=>h.mono (Wo _ _))⟩))))⟩,k2⟩;have:=i1.le;have:=k1.len;omega
theorem zxD(hx:Qd n ex)(outer:Bool)(hn:mu st+1<n):∃r,Qu ex outer st=some r/\MK 0 st r.1 r.2:=by unfold Qu;have s1:=zhX st;have s2:=zgu (IG st).2;have s3:=QP (s:=[46]) (by simp) (JR (IG st).2).2;have l1:=s1.le;have l2:=s2.le;have l3:=s3.le;obtain⟨r,h1,h2⟩:=hx outer (want [46] (JR (IG st).2).2) (by omega);simp only[h1,NW];refine⟨_,rfl,((s1.trans s2).trans (s3.trans h2.step)).Oj (by omega),λlo M hr hb=>?_⟩;have b3:=h2.step.bad hb;have b2:=s3.bad b3;have b1:=s2.bad b2;obtain⟨i1,i2⟩:=zmF hr b1;obtain⟨m,j1,j2⟩:=Yy i2 b2;obtain⟨N,hi,k1,k2⟩:=h2.Oh _ M (s3.PA _ M j2 b3) hb;refine⟨N+1,hi,⟨?_,.inr (.inr (.inl ⟨rfl,r.1,m,rfl,⟨i1,j1⟩,k1.down (by omega)⟩))⟩,k2⟩;have:=j1.len;have:=k1.le;omega
theorem zmC:∀(n:Nat),Qd n (Mn n)
 |0=>λ_ _ h=>absurd h (T7 _)
 |n+1=>λouter st h=>by
  have hx:=zmC n;have hn:mu st<n:=by omega
  show∃r,NU (Mn n) n outer st=some r/\MK 0 st r.1 r.2;unfold NU;split
  .rename_i hc;have s:=QD hc (by simp[Ol]);have:=VC s (Ri hc (by simp[Ol])).1;obtain⟨r,h1,h2⟩:=zxE hx outer (st:=st.qM) (by omega);exact⟨r,h1,(MK.pre s h2).Oj (by omega)⟩
  split
  .rename_i hc;have s:=QD hc (by simp[OK]);have:=VC s (Ri hc (by simp[OK])).1;obtain⟨r,h1,h2⟩:=zvY hx outer (st:=st.qM) (by omega);exact⟨r,h1,(MK.pre s h2).Oj (by omega)⟩
  split
  .rename_i hc;have s:=QD hc (by simp);have:=VC s (Ri hc).1;obtain⟨r,h1,h2⟩:=zxD hx outer (st:=st.qM) (by omega);exact⟨r,h1,(MK.pre s h2).Oj (by omega)⟩
  .exact zv1 hx hn
end Go.Proofs.YtgahgkddaljmkaaGreatDoor.Th
namespace Go.Proofs.YtgahgkddaljmkaaGreatDoor
open Tryz
section
namespace Th
theorem Pv.mono{n m:Nat}(hm:n<=m):∀{lo hi:Nat}{l:List By},Pv n lo hi l->Pv m lo hi l
 |_,_,[],h=>h
 |_,_,_::_,⟨h0,m1,m2,h1,h2,h3⟩=>⟨h0,m1,m2,h1,h2.mono hm,Pv.mono hm h3⟩
theorem Pv.snoc{n:Nat}:∀{lo m m1 hi:Nat}{l:List By}{x:By},Pv n lo m l->m<=x.name.at_->Me (x.name.at_+1) m1 x.params->In n x.e m1 hi->Pv n lo hi (l++[x])
 |_lo,_m,m1,hi,[],_x,h,hm,h1,h2=>⟨yM h hm,m1,hi,h1,h2,qP _⟩
 |_lo,_m,_m1,_hi,_::_,_x,⟨h0,a,b,k1,k2,k3⟩,hm,h1,h2=>⟨h0,a,b,k1,k2,Pv.snoc k3 hm h1 h2⟩
structure zyd (st:St) (l:List By) (st':St):Prop where
 step:Step 0 st st'
 Oh:∀lo M,Me lo M st.rest->st'.bad=none->∃N m,Pv N lo m l/\Me m M st'.rest
variable {n:Nat}{ex:Rd}{st:St}
theorem zv0(hx:Qd n ex)(hn:mu st+1<n):
  ∃r,Qs ex st=some r/\Step 1 st r.2/\∀lo M,Me lo M st.rest->r.2.bad=none->lo<=r.1.name.at_/\∃N m hi,Me (r.1.name.at_+1) m r.1.params/\In N r.1.e m hi/\Me hi M r.2.rest:=by
 unfold Qs;have s1:=zhX st;have s2:=zgu (IG st).2;have s3:=QP (s:=[61]) (by simp) (JR (IG st).2).2;have l1:=s1.le;have l2:=s2.le;have l3:=s3.le;obtain⟨r,h1,h2⟩:=hx true (want [61] (JR (IG st).2).2) (by omega);have s4:=QP (s:=[59]) (by simp) r.2;simp only[h1,NW];refine⟨_,rfl,((s1.trans s2).trans ((s3.trans h2.step).trans s4)).Oj (by omega),λlo M hr hb=>?_⟩;have b4:=s4.bad hb;have b3:=h2.step.bad b4;have b2:=s3.bad b3;have b1:=s2.bad b2;obtain⟨i1,i2⟩:=zmF hr b1;obtain⟨m,j1,j2⟩:=Yy i2 b2;obtain⟨N,hi,k1,k2⟩:=h2.Oh _ M (s3.PA _ M j2 b3) b4;exact⟨i1,N,m,hi,j1,k1.down (by omega),(s4.PA _ M k2 hb).down (by omega)⟩
theorem zjA{n:Nat}{ex:Rd}(hx:Qd n ex):∀(k:Nat)(l:List By)(eO st:St),zyd eO l st->mu st<k->mu st+1<n->∃r,N7 ex k l st=some r/\zyd eO r.1 r.2
 |0,_,_,_,_,h,_=>absurd h (T7 _)
 |k+1,l,eO,st,hf,hk,hn=>by
  unfold N7;split
  .rename_i hc;simp only[OR,It]at hc;have bp:=ztD hc.1;obtain⟨r,h1,h2,h3⟩:=zv0 hx hn;have l2:=h2.le;simp only[h1,NW];refine zjA hx k (l++[r.1]) eO r.2 ⟨(hf.step.trans h2).Oj (by omega),λlo M hr hb=>?_⟩ (by rcases h2.mu with h|h<;>omega) (by omega);obtain⟨N,m,i1,i2⟩:=hf.Oh lo M hr (h2.bad hb);obtain⟨j0,N2,m1,hi,j1,j2,j3⟩:=h3 m M i2 hb;exact⟨max N N2,hi,(i1.mono (Wm _ _)).snoc j0 j1 (j2.mono (Wo _ _)),j3⟩
  .exact⟨_,rfl,hf⟩
theorem zcr(p:UInt8->Bool)(t:List UInt8):(t.takeWhile p).length+(t.drop (t.takeWhile p).length).length=t.length:=by rw[Oo];have:=(U4 (l:=t) p).length_le;omega
theorem Xb(t:List UInt8):(first t).2.length<=t.length:=by
 unfold first
 split
 .simp
 .rename_i c r;split
  .unfold word;have:=(U4 (l:=c::r) MY).length_le;split<;>exact this
  split
  .unfold Pj;have:=(U4 (l:=c::r) Mg).length_le;split
   .simp
   .exact this
  split
  .simp
  .simp only[NQ];omega
theorem zjg(t:List UInt8)(h:¬(first t).1<=1):0<(first t).2.length:=by
 unfold first at h|-
 split at h
 .simp at h
 .rename_i c r;split at h
  .rename_i hc;rw[nB hc];have hw:MY c=true:=by simp[MY,hc]
   unfold word;split<;>simp[hw]
  .rename_i hc;rw[pL hc];split at h
   .rename_i hd;rw[nB hd];unfold Pj at h|-;split at h
    .simp at h
    .rename_i hl;rw[pL hl];simp[hd]
   .rename_i hd;rw[pL hd];split at h
    .simp at h
    .rename_i hz;rw[pL hz];simp only[NQ];have:0<(c::r).length:=by simp
     omega
theorem YX(n:Nat)(t:List UInt8)(p:Nat):ME n t p≠[]:=by cases n<;>simp[ME]
theorem YJ:∀(n:Nat)(t:List UInt8)(p:Nat),Me p (p+t.length+1) (ME n t p)
 |0,t,p=>⟨qP p,by show p+1<=_;omega⟩
 |n+1,t,p=>by
  have h1:=zcr Mh t;have h2:=Xb (t.drop (t.takeWhile Mh).length);unfold ME;refine⟨by simp,?_⟩;split
  .show p+(t.takeWhile Mh).length+1<=_;omega
  .rename_i hx;have h3:=zjg _ hx;have ih:=YJ n ((t.drop (t.takeWhile Mh).length).drop (first (t.drop (t.takeWhile Mh).length)).2.length) (p+(t.takeWhile Mh).length+(first (t.drop (t.takeWhile Mh).length)).2.length);have he:p+(t.takeWhile Mh).length+(first (t.drop (t.takeWhile Mh).length)).2.length+((t.drop (t.takeWhile Mh).length).drop (first (t.drop (t.takeWhile Mh).length)).2.length).length+1=p+t.length+1:=by
    rw[Oo];omega
   rw[he]at ih;exact ih.down (by show p+(t.takeWhile Mh).length+1<=_;omega)
theorem zjo(t:List UInt8):∀c∈t.takeWhile Mg,Mg c=true:=λc hc=>by have:=IE (p:=Mg) (l:=t);rw[List.all_eq_true]at this;exact this c hc
theorem zrv(t:List UInt8):((first t).1<=1->(first t).2=[])/\(first t).1<=4/\((first t).1=3->(first t).2.length<=9/\∀c∈(first t).2,Mg c=true):=by
 unfold first
 split
 .exact⟨λ_=>rfl,by simp,λh=>by cases h⟩
 .rename_i c r;split
  .unfold word;split
   .exact⟨λh=>absurd h (by simp),by simp,λh=>absurd h (by simp)⟩
   .exact⟨λh=>absurd h (by simp),by simp,λh=>absurd h (by simp)⟩
  split
  .unfold Pj;split
   .exact⟨λ_=>rfl,by simp,λh=>absurd h (by simp)⟩
   .rename_i hl;exact⟨λh=>absurd h (by simp),by simp,λ_=>⟨Nat.not_lt.1 hl,zjo _⟩⟩
  split
  .exact⟨λ_=>rfl,by simp,λh=>absurd h (by simp)⟩
  .exact⟨λh=>absurd h (by simp),by simp,λh=>absurd h (by simp)⟩
theorem zoM:∀(n:Nat)(t:List UInt8)(p:Nat),t.length<n->(∀i x,(ME n t p)[i]?=some x->(x.k<=1↔i+1=(ME n t p).length))/\∀x∈ME n t p,(x.k<=1->x.s=[])/\(2<=x.k->x.s≠[])/\x.k<=4/\x.s.length<=t.length/\(x.k=3->x.s.length<=9/\∀c∈x.s,Mg c=true)
 |0,t,p,h=>absurd h (T7 _)
 |n+1,t,p,h=>by
  have h1:=zcr Mh t;generalize hu:t.drop (t.takeWhile Mh).length=u at h1;have h2:=Xb u;have h4:=zrv u;have hd:ME (n+1) t p=⟨(first u).1,(first u).2,p+(t.takeWhile Mh).length⟩::(if(first u).1<=1 then[]else ME n (u.drop (first u).2.length) (p+(t.takeWhile Mh).length+(first u).2.length)):=by rw[<-hu];rfl
  rw[hd];by_cases hx:(first u).1<=1
  .rw[nB hx];refine⟨λi x hi=>?_,λx hm=>?_⟩
   .cases i with
    |zero=>simp only[Pk,IA]at hi;subst hi;simp[hx]
    |succ i=>simp at hi
   .simp only[NA]at hm;subst hm;exact⟨h4.1,λh=>absurd hx (by simp only at h;omega),h4.2.1,by simp only;omega,h4.2.2⟩
  .rw[pL hx];have h3:=zjg _ hx;have ih:=zoM n (u.drop (first u).2.length) (p+(t.takeWhile Mh).length+(first u).2.length) (by rw[Oo];omega);have hlen:(u.drop (first u).2.length).length<=t.length:=by rw[Oo];omega
   refine⟨λi x hi=>?_,λx hm=>?_⟩
   .cases i with
    |zero=>
     simp only[Pk,IA]at hi;subst hi;have aH:=YX n (u.drop (first u).2.length) (p+(t.takeWhile Mh).length+(first u).2.length);have:=Qw.2 aH;simp only[Kh];constructor
     .intro h;exact absurd h hx
     .intro h;omega
    |succ i=>rw[R7]at hi;rw[ih.1 i x hi,Kh];omega
   .rcases Mz.1 hm with rfl|hm
    .exact⟨h4.1,λ_ hn=>by simp only at hn;rw[hn]at h3;simp at h3,h4.2.1,by simp only;omega,h4.2.2⟩
    .obtain⟨a,b,c,d,e⟩:=ih.2 x hm;exact⟨a,b,c,by omega,e⟩
theorem Me.zyh:∀{lo M:Nat}{l:List Tok},Me lo M l->∀t∈l,t.at_<M
 |_,_,[],_,t,h=>by simp at h
 |lo,M,x::l,hr,t,h=>by
  rcases Mz.1 h with rfl|h
  .have:=hr.2.len;omega
  .exact Me.zyh hr.2 t h
end Th
theorem zev(s:ByteArray)(hs:s.size<=600):Good (Mr s):=by
 have hz:s.data.toList.length=s.size:=by rw[SX];rfl
 have hr:Th.Me 0 (s.size+1) (Mr s):=by have:=Th.YJ (s.size+1) s.data.toList 0;rw[hz,On]at this;exact this
 have hg:=Th.zoM (s.size+1) s.data.toList 0 (by omega);rw[hz]at hg;have hl:=hr.len;refine⟨by omega,hg.1,λt ht=>?_,λt ht hk=>?_⟩
 .obtain⟨a,b,c,d,e⟩:=hg.2 t ht;have:=hr.zyh t ht;exact⟨a,b,c,by omega,by omega⟩
 .obtain⟨a,b,c,d,e⟩:=hg.2 t ht;exact e hk
theorem zsd(s:ByteArray)(hs:s.size<=600):∃q N,(∃n k,n<=1000000/\k<=1000000/\Th.N7 (Th.Mn n) k [] ⟨Mr s,none⟩=some q)/\(q.2.bad=none->∃lo hi,Th.Pv N lo hi q.1/\hi-lo<=100000):=by
 have hr:Th.Me 0 (s.size+1) (Mr s):=by have:=Th.YJ (s.size+1) s.data.toList 0;rw[SX,On]at this;exact this
 have hl:=hr.len;obtain⟨q,h1,h2⟩:=Th.zjA (Th.zmC 1000) 1000 [] ⟨Mr s,none⟩ ⟨Mr s,none⟩ ⟨Th.Step.refl _,λlo M hr _=>⟨0,lo,qP _,hr⟩⟩ (by show(Mr s).length+1<1000;omega) (by show(Mr s).length+1+1<1000;omega);by_cases hb:q.2.bad=none
 .obtain⟨N,m,i1,i2⟩:=h2.Oh 0 (s.size+1) hr hb;have:=i2.len;exact⟨q,N,⟨1000,1000,by omega,by omega,h1⟩,λ_=>⟨0,m,i1,by omega⟩⟩
 .exact⟨q,0,⟨1000,1000,by omega,by omega,h1⟩,λh=>absurd h hb⟩
theorem zys(s:ByteArray)(hs:s.size<=600):∃q N,Plain s q N:=by obtain⟨q,N,h1,h2⟩:=zsd s hs;exact⟨q,N,zev s hs,Th.YX _ _ _,h1,h2⟩
end
section
namespace Th
theorem zlZ{wr:Ex->List (List UInt8)->List Nat}{ae:List (List UInt8)}:∀{seen:List (List UInt8)}{l:List Tok}{es:List Ex},es.length=l.length->Nc wr ae seen l es=[]->∀e∈es,wr e ae=[]
 |_,[],[],_,_=>by simp
 |seen,t::r,e::es,hl,h=>by
  rw[Nc]at h;simp only[XI]at h;intro x hx;rcases Mz.1 hx with rfl|hx
  .exact h.1.2
  .exact zlZ (by simpa using hl) h.2 x hx
 |_,[],_::_,hl,_=>by simp at hl
 |_,_::_,[],hl,_=>by simp at hl
theorem zoW{wr:Ex->List (List UInt8)->List Nat}{ae:List (List UInt8)}:∀{l:List (Nat × List Tok)}{es:List Ex},Oi wr ae l es=[]->∀(i:Nat)(a:Nat × List Tok)(d:Ex),l[i]?=some a->es[i]?=some d->wr d (ae++texts a.2)=[]
 |[],_,_,i,a,d,h1,_=>by simp at h1
 |_::_,[],_,i,a,d,_,h2=>by simp at h2
 |a::r,e::es,h,i,b,d,h1,h2=>by
  rw[Oi]at h;simp only[XI]at h;cases i with
  |zero=>simp at h1 h2;subst h1 h2;exact h.1.2
  |succ i=>exact zoW h.2 i b d (by simpa using h1) (by simpa using h2)
theorem zjm{P:Ex->Nat->Nat->Prop}:∀{lo hi:Nat}{l:List Tok}{es:List Ex},Oc P lo hi l es->∀e∈es,∃a b,P e a b
 |_,_,[],[],_=>by simp
 |lo,hi,t::r,e::es,h=>by
  obtain⟨_,m,h1,h2⟩:=h;intro x hx;rcases Mz.1 hx with rfl|hx
  .exact⟨_,_,h1⟩
  .exact zjm h2 x hx
 |_,_,[],_::_,h=>h.elim
 |_,_,_::_,[],h=>h.elim
theorem zlu{P:Ex->Nat->Nat->Prop}:∀{lo hi:Nat}{l:List (Nat × List Tok)}{es:List Ex},OW P lo hi l es->∀e∈es,∃a b,P e a b
 |_,_,[],[],_=>by simp
 |lo,hi,t::r,e::es,h=>by
  obtain⟨_,m,_,h1,h2⟩:=h;intro x hx;rcases Mz.1 hx with rfl|hx
  .exact⟨_,_,h1⟩
  .exact zlu h2 x hx
 |_,_,[],_::_,h=>h.elim
 |_,_,_::_,[],h=>h.elim
theorem Tl{m:Nat}:∀(N:Nat)(e:Ex)(lo hi:Nat)(ae:List (List UInt8)),In N e lo hi->Cp.Dp m e->JL N e ae=[]->∀x∈Cp.free m e,x∈ae
 |0,_,_,_,_,h,_,_=>h.elim
 |N+1,e,lo,hi,ae,h,hd,hw=>by
  intro x hx;have ak:=hd.free;rw[ak]at hx;rw[JL]at hw;rcases h.2 with hk|⟨hk,_⟩|⟨hk,b,m',k1,_,k2⟩|⟨hk,e1,e2,m',k1,k2,k3⟩|⟨hk,b,parts,m',k1,k2,k3⟩|⟨hk,b,ag,m',k1,k2,k3⟩
  .have h2:e.kind≠2:=by omega
   have h4:e.kind≠4:=by omega
   have h5:¬(e.kind=5\/e.kind=6):=by omega
   have h7:e.kind≠7:=by omega
   have h8:e.kind≠8:=by omega
   have h9:e.kind≠9:=by omega
   simp[h2,h4,h5,h7,h8,h9]at hx
  .simp only[hk,kP,NA]at hx hw;rw[hx];by_cases hc:ae.contains e.tok.s
   .simpa using hc
   .rw[pL hc]at hw;cases hw
  .simp only[hk,k1]at hx hw;simp[Cp.Pu]at hx hw;have:=Tl N b _ _ _ k2 (hd.Nn (by simp[k1])) hw.2 x hx.1;rcases Ni.1 this with h1|h1
   .exact h1
   .exact absurd h1 hx.2
  .have h2:e.kind≠2:=by omega
   have h4:e.kind≠4:=by omega
   simp only[h2,h4,hk,k1,nt,kP]at hx hw;simp only[List.headD_cons,JO,XI]at hw;rcases Cp.No.1 hx with hx|hx
   .exact Tl N e1 _ _ _ k2 (hd.Nn (by simp[k1])) hw.1 x hx
   .exact Tl N e2 _ _ _ k3 (hd.Nn (by simp[k1])) hw.2 x hx
  .obtain⟨_,b',ps,A0,gK⟩:=hd.Nf.k7 hk;rw[k1]at A0;cases A0;have body:∀y∈Cp.M6 (Cp.free m b) (texts e.names),JL N b (ae++texts e.names)=[]->y∈ae:=λy hy yf=>by
    obtain⟨y1,y2⟩:=Cp.Pu.1 hy;have:=Tl N b _ _ _ k3 (hd.Nn (by simp[k1])) yf y y1;rcases Ni.1 this with h1|h1
    .exact h1
    .exact absurd h1 y2
   have bind:∀ar:List (List UInt8),Nc (JL N) ar [] e.names parts=[]->∀y∈Cp.M7 (Cp.free m) parts [],y∈ar:=λar yf y hy=>by
    rcases Cp.Sr.1 hy with hy|⟨p,hp,hy⟩
    .simp at hy
    .obtain⟨a1,a2,IU⟩:=zjm k2 p hp;exact Tl N p _ _ _ IU (hd.Nn (by simp[k1,hp])) (zlZ gK yf p hp) y hy
   rcases hk with hk|hk
   .simp only[hk,k1]at hx hw;simp at hx hw;rcases Cp.No.1 hx with hx|hx
    .exact bind _ hw.1 x hx
    .exact body x hx hw.2
   .simp only[hk,k1]at hx hw;simp at hx hw;rcases Cp.No.1 hx with hx|hx
    .obtain⟨y1,y2⟩:=Cp.Pu.1 hx;rcases Ni.1 (bind _ hw.1 x y1)with h1|h1
     .exact h1
     .exact absurd h1 y2
    .exact body x hx hw.2
  .simp only[hk,k1]at hx hw;simp at hx hw;rcases Cp.No.1 hx with hx|hx
   .exact Tl N b _ _ _ k2 (hd.Nn (by simp[k1])) hw.1 x hx
   .rcases Cp.WN.1 hx with hx|⟨i,a,d,i1,i2,i3,i4⟩
    .simp at hx
    .have rZ:=ML i2;obtain⟨a1,a2,IU⟩:=zlu k3 d rZ;have:=Tl N d _ _ _ IU (hd.Nn (by simp[k1,rZ])) (zoW hw.2 i a d i1 i2) x i3;rcases Ni.1 this with h1|h1
     .exact h1
     .exact absurd h1 i4
theorem ztd:∀(n:Nat)(e:Ex),Cp.Dp n e->∀x∈Cp.free n e,x≠[]
 |0,_,h=>h.elim
 |n+1,e,h=>by
  intro x hx;have ih:∀k∈e.kids,∀y∈Cp.free n k,y≠[]:=λk hk=>ztd n k (h.2 k hk)
  rw[Cp.free]at hx;split at hx
  .next hk=>rw[NA.1 hx];exact h.1.us hk
  .split at hx
   .split at hx
    .next b hb=>exact ih b (by simp[hb]) x (Cp.Pu.1 hx).1
    .simp at hx
   .split at hx
    .split at hx
     .next a b hb=>
      rcases Cp.No.1 hx with hx|hx
      .exact ih a (by simp[hb]) x hx
      .exact ih b (by simp[hb]) x hx
     .simp at hx
    .split at hx
     .split at hx
      .next b ps hb=>
       rcases Cp.No.1 hx with hx|hx
       .rcases Cp.Sr.1 hx with hx|⟨p,hp,hx⟩
        .simp at hx
        .exact ih p (by simp[hb,hp]) x hx
       .exact ih b (by simp[hb]) x (Cp.Pu.1 hx).1
      .simp at hx
     .split at hx
      .split at hx
       .next b ps hb=>
        rcases Cp.No.1 hx with hx|hx
        .rcases Cp.Sr.1 (Cp.Pu.1 hx).1 with hx|⟨p,hp,hx⟩
         .simp at hx
         .exact ih p (by simp[hb,hp]) x hx
        .exact ih b (by simp[hb]) x (Cp.Pu.1 hx).1
       .simp at hx
      .split at hx
       .split at hx
        .next b bs hb=>
         rcases Cp.No.1 hx with hx|hx
         .exact ih b (by simp[hb]) x hx
         .rcases Cp.WN.1 hx with hx|⟨i,a,d,i1,i2,i3,i4⟩
          .simp at hx
          .exact ih d (by simp[hb,ML i2]) x i3
        .simp at hx
       .simp at hx
theorem zxi:∀{m:Nat}{e:Ex},Cp.Dp m e->Cp.Dp (Cp.wt m e) e
 |0,_,h=>h.elim
 |m+1,e,h=>by
  have hk:∀k∈e.kids,Cp.Dp (e.names.length+(e.nA.map λa=>1+a.2.length).sum+(e.kids.map (Cp.wt m)).sum) k:=λk hk=>by
   refine(zxi (h.2 k hk)).le ?_;have h1:∀(l:List Ex),k∈l->Cp.wt m k<=(l.map (Cp.wt m)).sum:=by
    intro l
    induction l with
    |nil=>simp
    |cons y l ih=>
     intro hm;rw[Ki,MW];rcases Mz.1 hm with rfl|hm
     .omega
     .have:=ih hm;omega
   have:=h1 e.kids hk;omega
  rw[Cp.wt,show 1+e.names.length+(e.nA.map λa=>1+a.2.length).sum+(e.kids.map (Cp.wt m)).sum=(e.names.length+(e.nA.map λa=>1+a.2.length).sum+(e.kids.map (Cp.wt m)).sum)+1 by omega];exact⟨h.1,hk⟩
theorem zl0{n:Nat}{all:List (List UInt8)}:∀{l:List By}{seen:List (List UInt8)},NM n all seen l=[]->∀x∈l,JL n x.e (all++texts x.params)=[]
 |[],_,_=>by simp
 |y::l,seen,h=>by
  rw[NM]at h;simp only[XI]at h;intro x hx;rcases Mz.1 hx with rfl|hx
  .exact h.1.2
  .exact zl0 h.2 x hx
theorem zjn{n:Nat}:∀{lo hi:Nat}{l:List By},Pv n lo hi l->∀x∈l,∃a b,In n x.e a b
 |_,_,[],_=>by simp
 |lo,hi,y::l,h=>by
  obtain⟨_,m1,m2,_,h1,h2⟩:=h;intro x hx;rcases Mz.1 hx with rfl|hx
  .exact⟨_,_,h1⟩
  .exact zjn h2 x hx
theorem UI:∀(n:Nat)(t:List UInt8)(p:Nat),(ME n t p).length<=t.length+1
 |0,t,p=>by simp[ME]
 |n+1,t,p=>by
  have h1:=zcr Mh t;generalize hu:t.drop (t.takeWhile Mh).length=u at h1;have h2:=Xb u;have hd:ME (n+1) t p=⟨(first u).1,(first u).2,p+(t.takeWhile Mh).length⟩::(if(first u).1<=1 then[]else ME n (u.drop (first u).2.length) (p+(t.takeWhile Mh).length+(first u).2.length)):=by rw[<-hu];rfl
  rw[hd];by_cases hx:(first u).1<=1
  .rw[nB hx];simp
  .rw[pL hx];have h3:=zjg _ hx;have ih:=UI n (u.drop (first u).2.length) (p+(t.takeWhile Mh).length+(first u).2.length);rw[Oo]at ih;simp only[Kh];omega
theorem zgT:∀{l:List By},Pp l=true->Oy∈JE l
 |[],h=>by simp[Pp]at h
 |x::l,h=>by
  rw[Pp]at h;split at h
  .next hx=>simp at hx;simp[JE,hx]
  .have:=zgT h;simp[JE]at this|-;exact .inr this
structure XA (D:Nat) (l:List By):Prop where
 dp:∀f∈l,Cp.Dp D f.e
 par:∀f∈l,∀t∈f.params,t.s≠[]
 nm:∀f∈l,∀x∈Cp.free D f.e,x≠[]/\(x∈texts f.params\/x∈JE l)
 sum:(l.map λf=>Cp.wt D f.e+f.params.length+1).sum<=1300
 main:Oy∈JE l
theorem zhY{l:List By}{f:By}(g:By->Nat)(h:f∈l):g f<=(l.map g).sum:=by
 induction l with
 |nil=>simp at h
 |cons y l ih=>
  rw[Ki,MW];rcases Mz.1 h with rfl|h
  .omega
  .have:=ih h;omega
theorem XA.each{D:Nat}{l:List By}(h:XA D l){f:By}(hf:f∈l):Cp.wt D f.e+f.params.length+1<=1300:=yM (zhY (λf=>Cp.wt D f.e+f.params.length+1) hf) h.sum
end Th
theorem zqw{T:List Th.Tok}(h:Good T):Th.Kr ⟨T,none⟩:=by intro t ht;refine⟨λhk=>?_,λhk=>((h.text t ht).2.1) (by omega)⟩;obtain⟨h1,h2⟩:=h.num t ht hk;have h3:=Zp t.s 0 h2;have h4:10 ^ t.s.length<=10 ^ 9:=Zr (by decide) h1;show t.s.foldl (λa c=>10*a+(c.toNat-48)) 0<=999999999;omega
theorem YY{s:ByteArray}{q:List Th.By × Th.St}{N:Nat}(hs:s.size<=600)(hp:Plain s q N)(h0:(answer s.size q N).1=0):Th.XA 1300 q.1:=by
 have hb:q.2.bad=none:=by
  unfold answer at h0;cases hb:q.2.bad with
  |none=>rfl
  |some p=>rw[hb]at h0;simp at h0
 obtain⟨n,k,_,_,hq⟩:=hp.lines;obtain⟨lo,hi,IU,_⟩:=hp.within hb;have hl:=Th.UI (s.size+1) s.data.toList 0;have hz:s.data.toList.length=s.size:=by rw[SX];rfl
 rw[hz]at hl;have aj:(Mr s).length<=s.size+1:=hl;obtain⟨m,w1,w2⟩:=Th.zgp k [] _ ⟨Mr s,none⟩ q hq (zqw hp.Kt) (λ_=>⟨0,by simp,0,by simp,by simp⟩) hb;simp only at w2;have AW:Th.NM N (Th.JE q.1) [] q.1=[]/\Th.Pp q.1=true:=by
  unfold answer at h0;rw[hb]at h0;simp only at h0;cases hw:Th.NM N (Th.JE q.1) [] q.1 with
  |cons p r=>rw[hw]at h0;simp at h0
  |nil=>
   rw[hw]at h0;simp only[List.head?_nil]at h0;refine⟨rfl,?_⟩;by_cases hm:Th.Pp q.1=true
   .exact hm
   .rw[pL hm]at h0;simp at h0
 have dj:∀f∈q.1,Cp.wt m f.e<=1300:=λf hf=>by have:=Th.zhY (λf=>Cp.wt m f.e+f.params.length+1) hf;omega
 have hD:∀f∈q.1,Cp.Dp 1300 f.e:=λf hf=>(Th.zxi (w1 f hf).1).le (dj f hf)
 have Fq:∀f∈q.1,Cp.wt 1300 f.e=Cp.wt m f.e:=λf hf=>by rw[<-JD (hD f hf) (T6 1300 m),JD (w1 f hf).1 (TG m 1300)]
 refine⟨hD,λf hf=>(w1 f hf).2,λf hf x hx=>⟨Th.ztd _ _ (hD f hf) x hx,?_⟩,?_,Th.zgT AW.2⟩
 .obtain⟨a,b,hI⟩:=Th.zjn IU f hf;have:=Th.Tl N f.e a b _ hI (hD f hf) (Th.zl0 AW.1 f hf) x hx;rcases Ni.1 this with h|h
  .exact .inr h
  .exact .inl h
 .rw[U3 (λf hf=>by rw[Fq f hf])];omega
end
section
open Go.RowKit Go.Shelf
attribute [local go_sem ↓] Go.wp_at_zero Go.wp_at_succ
theorem zdk{P:Program}{fn:Func}{p u:Tmp}{ty:TypeId}(h:fn.results=#[.cell p ty,.tmp u])(tmps:Array Value)(w:World)(g:Nat)(t:TypeId)(cs:Array Value)(fr:Nat × Nat)(d:TypeDesc)(hp:tmps.getD p undef=.pointer (some ⟨g,0,none⟩))(hg:w.heap[g]?=some (.cells cs t fr))(hu:P.underlying ty=some d)(hd:(match d with|.struct _|.array _ _=>true|_=>false)=true)(hi:(P.info? ty).map (·.size)=some cs.size):
  (results fn tmps).run P w=.ok (.tuple #[.agg cs,tmps.getD u undef]) w:=by
 have lu:tmps[p]?.getD undef=.pointer (some ⟨g,0,none⟩):=by simpa using hp
 simp[results,h,lu,asAddr,run_loadVar_row w g t ty cs fr d hg hu hd hi]
theorem zwW{S:Nat->Prop}{w:World}:∀{D m:Nat}{v:Value}{e:Th.Ex},qU S w m v e->Cp.Dp D e->qU S w D v e
 |0,_,_,_,_,h=>h.elim
 |D+1,0,_,_,h,_=>h.elim
 |D+1,m+1,v,e,h,hd=>by
  have ih:∀{v:Value}{k:Th.Ex},k∈e.kids->qU S w m v k->qU S w D v k:=λhk hr=>zwW hr (hd.2 _ hk)
  rcases h with h|h|h|⟨hk,sv,bv,b,h1,h2,h3,h4⟩|⟨hk,v1,v2,e1,e2,h1,h2,h3,h4⟩|⟨hk,v1,v2,e1,e2,h1,h2,h3,h4⟩|⟨hk,sv,bv,b,parts,pvs,h1,h2,h3,h4,h5,h6,h7⟩|⟨hk,cv,sv,b,ag,nvs,bvs,h1,h2,h3,h4,h5,h6,h7,h8,h9⟩
  .exact .inl h
  .exact .inr (.inl h)
  .exact .inr (.inr (.inl h))
  .exact .inr (.inr (.inr (.inl ⟨hk,sv,bv,b,h1,h2,h3,ih (by simp[h1]) h4⟩)))
  .exact .inr (.inr (.inr (.inr (.inl ⟨hk,v1,v2,e1,e2,h1,h2,ih (by simp[h1]) h3,ih (by simp[h1]) h4⟩))))
  .exact .inr (.inr (.inr (.inr (.inr (.inl ⟨hk,v1,v2,e1,e2,h1,h2,ih (by simp[h1]) h3,ih (by simp[h1]) h4⟩)))))
  .exact .inr (.inr (.inr (.inr (.inr (.inr (.inl ⟨hk,sv,bv,b,parts,pvs,h1,h2,h3,h4,h5,λi pv p a c=>ih (by simp[h1,ML c]) (h6 i pv p a c),ih (by simp[h1]) h7⟩))))))
  .exact .inr (.inr (.inr (.inr (.inr (.inr (.inr ⟨hk,cv,sv,b,ag,nvs,bvs,h1,h2,h3,h4,h5,h6,h7,λi bv p a c=>ih (by simp[h1,ML c]) (h8 i bv p a c),ih (by simp[h1]) h9⟩))))))
theorem znC{S:Nat->Prop}{w:World}{pv:Value}{l:List Th.By}(hr:UO S w pv l)(ho:Th.XA 1300 l):
  Calls prog 35 #[pv] w λe w'=>∃rv,e=.returned (.agg #[rv,.int .i64 l.length,.int .i64 ((Th.JE l).idxOf Th.Oy:Nat)])/\Zf w' rv (Cp.program 1300 l)/\Fr (λ_=>False) w w':=by
 obtain⟨nvs,bvs,m,h1,h2,af,jY⟩:=hr;have hlen:l.length<=1300:=by
  have h0:∀(l:List Th.By),l.length<=(l.map λf=>Cp.wt 1300 f.e+f.params.length+1).sum:=by
   intro l
   induction l with
   |nil=>simp
   |cons x l ih=>rw[Ki,MW,Kh];omega
  have:=h0 l;have:=ho.sum;omega
 have dh:l.length+(l.map λf=>8*Cp.wt 1300 f.e).sum<=1000000:=by
  have h0:∀(l:List Th.By),(l.map λf=>8*Cp.wt 1300 f.e).sum<=8*(l.map λf=>Cp.wt 1300 f.e+f.params.length+1).sum:=by
   intro l
   induction l with
   |nil=>simp
   |cons x l ih=>rw[Ki,MW,Ki,MW];omega
  have:=h0 l;have:=ho.sum;omega
 have aJ:∀f∈l,f.params.length<=5000/\∀bl:List (Nat × List Ds),bl.length+8*Cp.wt 1300 f.e<=1000000->Fit 1300 1300 (Th.JE l) ⟨bl,(Th.texts f.params).reverse,[]⟩ f.e:=λf hf=>by
  have he:=ho.each hf;have hp:(1300+8)*Cp.wt 1300 f.e<=(1300+8)*1300:=Pr _ (by omega);refine⟨by omega,λbl cV=>⟨ho.dp f hf,by omega,by omega,by simp[Th.JE];omega,λx hx=>?_,by simp;omega,by simp[Th.texts];omega,cV⟩⟩;obtain⟨a,b⟩:=ho.nm f hf x hx;refine⟨a,?_⟩;rcases b with b|b
  .exact .inl (by simpa using b)
  .exact .inr b
 have aX:∀f∈l,∀q:Cp.Bs,(Cp.work (Cp.free 1300) (Th.JE l) 1300 f.e 0 q).blocks.length<=q.blocks.length+8*Cp.wt 1300 f.e/\q.blocks.length<=(Cp.work (Cp.free 1300) (Th.JE l) 1300 f.e 0 q).blocks.length:=λf hf q=>by have he:=ho.each hf;have h3:=(Cp.Oa 1300 1300 (Th.JE l) 1300 f.e 0 q (ho.dp f hf) (by omega)).2.2;obtain⟨⟨⟨bl,e1,_⟩,_⟩,_⟩:=Cp.P8 (M:=1300) 1300 (Th.JE l) (by omega) 1300 f.e 0 q (ho.dp f hf) (ho.dp f hf) (by omega);refine⟨by omega,?_⟩;rw[e1];simp
 have xK:To S w 1300 l nvs bvs:=λi x nv bv a b c=>⟨(jY i x nv bv a b c).1,zwW (jY i x nv bv a b c).2 (ho.dp x (ML a))⟩
 have hg:=Cp.zn9 (M:=1300) (N:=1300) (l:=l) (by omega) (λf hf=>⟨ho.dp f hf,by have:=ho.each hf;omega,by have:=ho.each hf;omega⟩);have bp:0<l.length:=by have:=II ho.main;simpa[Th.JE]using this
 refine(znB (zo0 1300 (by omega) 1300 (qP _)) h1 h2 af xK rfl ho.main aJ aX dh).mono ?_;rintro e w'⟨Z,cb,rv,rfl,aE,ak⟩;exact⟨rv,rfl,zsQ aE hg.1 (by omega),ak⟩
def Ov (x:Int) (m:Nat):Nat:=(min (max x 0) (m:Int)).toNat
theorem zwv{s:ByteArray}{q:List Th.By × Th.St}{N:Nat}(hs:s.size<=600)(hp:Plain s q N)(h0:(answer s.size q N).1=0)(heap fuel:Int){g:Nat}{k n t a:Int}(hr:∀pv,runM pv (Cp.program 1300 q.1) q.1.length ((Th.JE q.1).idxOf Th.Oy) (Ov heap 262144) (Ov fuel 4000000) g=some (k,n,t,a))(w:World):
  Calls prog 25 #[.string s,.int .i64 heap,.int .i64 fuel] w λe w'=>e=.returned (.tuple #[QG k n t a,.int .i64 0])/\Fr (λ_=>False) w w':=by
 have bU:=YY hs hp h0;have hlen:q.1.length<=1000000:=by
  have h0:∀(l:List Th.By),l.length<=(l.map λf=>Cp.wt 1300 f.e+f.params.length+1).sum:=by
   intro l
   induction l with
   |nil=>simp
   |cons x l ih=>rw[Ki,MW,Kh];omega
  have:=h0 q.1;have:=bU.sum;omega
 have hH:((Ov heap 262144:Nat):Int)=min (max heap 0) 262144:=by unfold Ov;omega
 have hF:((Ov fuel 4000000:Nat):Int)=min (max fuel 0) 4000000:=by unfold Ov;omega
 have f0:Fr (λ_=>False) w (w.alloc (.cells #[.int .i64 0,.int .i64 0,.int .i64 0,.int .i64 0] 35)):=(eU _ _).alloc _;have dn:=eu (Y0 hs hp (w.alloc (.cells #[.int .i64 0,.int .i64 0,.int .i64 0,.int .i64 0] 35)));have HB:=eu (gH w [.int .i64 0,.int .i64 0,.int .i64 0,.int .i64 0] 35);have F0:=eu f0;have CC:=eu (λ(w1:World)(pv:Value)(hp:UO (IB (w.alloc (.cells #[.int .i64 0,.int .i64 0,.int .i64 0,.int .i64 0] 35))) w1 pv q.1)=>znC hp bU);have CR:=eu (λ(w2:World)(rv:Value)(hc:Zf w2 rv (Cp.program 1300 q.1))=>zxI (g:=g) hc hlen (show Ov heap 262144<=1000000 by unfold Ov;omega) (show Ov fuel 4000000<=1000000000 by unfold Ov;omega) (hr rv));clear f0 hp hs hr bU;obtain⟨a',ha⟩:∃a,answer s.size q N=a:=⟨_,rfl⟩;unfold YV at dn;rw[ha]at dn h0;obtain⟨a1,a2⟩:=a';simp only at h0;subst h0;rw[hH,hF]at CR;clear ha hH hF;go_enter func25,ntmps25;go_wp2_with fail;refine dn.o.mono ?_;rintro e w1⟨hb,pv,rfl,⟨pa,pk,pc,rfl⟩,aR⟩;have C1:=eu (CC.o w1 _ (aR trivial));have F1:=eu (F0.o.trans (oq hb));have B1:=eu (gd (K:=λ_=>False) HB.o (oq hb));clear hb aR dn CC;go_wp2_with fail;refine C1.o.mono ?_;rintro e w2⟨rv,rfl,hc,f2⟩;have C2:=eu (CR.o w2 rv hc);have F2:=eu (F1.o.trans f2);have B2:=eu (gd B1.o f2);clear hc f2 C1 CR;go_wp2_with fail;refine C2.o.mono ?_;rintro e w3⟨rfl,f3⟩;have ia:=gd B2.o f3;have p0:=al ia 0;have p1:=al ia 1;have p2:=al ia 2;have p3:=al ia 3;have z0:=ku ia 0;have z1:=ku ia 1;have z2:=ku ia 2;have z3:=ku ia 3;simp at p0 p1 p2 p3;have mw:=eu ia;have F3:=eu (F2.o.trans f3);unfold QG;clear ia f3 C2;go_wp2_with fail;refine mF (zdk rfl _ _ w.heap.size _ _ _ _ rfl (xN (xN (xN (xN mw.o 0 _) 1 _) 2 _) 3 _) underlying35 rfl (by kernel_rfl)) rfl ?_;exact⟨rfl,(((F3.o.set _ _ (.inr (qP _))).set _ _ (.inr (qP _))).set _ _ (.inr (qP _))).set _ _ (.inr (qP _))⟩
end
section
namespace Ab
inductive Nd where
 |num (v:Int)
 |data (t:Nat) (fs:List Nat)
 |Jb (b:Nat) (fs:List Nat)
 |busy
 |fwd (a:Nat)
inductive Wd where
 |ad (a:Nat)
 |mk (k b:Nat)
def sz:Nd->Nat
 |.num _=>2
 |.data _ fs=>1+fs.length
 |.Jb _ fs=>1+fs.length
 |.busy=>1
 |.fwd _=>1
def Mt:Nd->List Nat
 |.data _ fs=>fs
 |.Jb _ fs=>fs
 |_=>[]
def Ip:Nd->Int
 |.num _=>0
 |.data t fs=>Hd 1 t fs.length
 |.Jb b fs=>Hd 2 b fs.length
 |.busy=>Hd 3 0 0
 |.fwd _=>0
def Ks:Nd->Bool
 |.fwd _=>true
 |_=>false
def PT:Nd->Prop
 |.data t fs=>t<=1000000000/\fs.length<4096
 |.Jb b fs=>b<=1000000000/\fs.length<4096
 |_=>True
variable {nd:Nd}
theorem Uz(h:PT nd):0<=Ip nd/\Ip nd<9223372036854775808:=by cases nd<;>simp only[Ip,PT]at *<;>(try unfold Hd)<;>omega
theorem zmn(hf:Ks nd=false):Ip nd%16≠4/\Ip nd%16≠5:=by cases nd<;>simp only[Ip]<;>first|(constructor<;>decide)|(unfold Hd;omega)|simp[Ks]at hf
theorem zlr(h:PT nd)(hf:Ks nd=false):behind (Ip nd)+1=sz nd:=by
 cases nd with
 |num v=>simp[behind,Ip,sz]
 |data t fs=>simp only[PT]at h;unfold behind;rw[pL (by simp only[Ip];rw[Pg];omega)];simp only[Ip,sz];rw[UE (by omega) h.2];omega
 |Jb t fs=>simp only[PT]at h;unfold behind;rw[pL (by simp only[Ip];rw[Pg];omega)];simp only[Ip,sz];rw[UE (by omega) h.2];omega
 |busy=>simp[behind,Ip,sz,Hd]
 |fwd a=>simp[Ks]at hf
theorem ztf(h:PT nd)(hf:Ks nd=false):(Ip nd/16%4096).toNat=(Mt nd).length:=by
 cases nd with
 |num v=>simp[Ip,Mt]
 |data t fs=>simp only[PT]at h;simp only[Ip,Mt];rw[UE (by omega) h.2];omega
 |Jb t fs=>simp only[PT]at h;simp only[Ip,Mt];rw[UE (by omega) h.2];omega
 |busy=>simp[Ip,Mt,Hd]
 |fwd a=>simp[Ks]at hf
theorem SC(nd:Nd):(Mt nd).length+1<=sz nd:=by cases nd<;>simp[Mt,sz]<;>omega
theorem SK(nd:Nd):1<=sz nd:=by cases nd<;>simp[sz]
def Rf (φ:Nat->Option Nat) (h:List Nd) (x:Int) (a:Nat):Prop:=∃p:Nat,x=(p:Int)/\(φ a=some p\/∃b,h[a]?=some (.fwd b)/\φ b=some p)
def RW (φ:Nat->Option Nat) (h:List Nd) (x:Int):Wd->Prop
 |.ad a=>Rf φ h x a
 |.mk k b=>x=Mk k b
def Rr (ws:List Int) (ρ:Int->Nat->Prop) (p:Nat) (nd:Nd):Prop:=ws[p]?=some (Ip nd)/\(∀v,nd=.num v->ws[p+1]?=some v)/\∀(i:Nat)(f:Nat),(Mt nd)[i]?=some f->∃x,ws[p+1+i]?=some x/\ρ x f
def At (ws:List Int) (φ:Nat->Option Nat) (h:List Nd) (p:Nat) (nd:Nd):Prop:=(∃b p',nd=.fwd b/\φ b=some p'/\ws[p]?=some (Hd 4 p' 0))\/(Ks nd=false/\Rr ws (Rf φ h) p nd)
structure Rel (s:nG) (fc:List Int) (h:List Nd) (st:List Wd) (fns:List Nat) (φ:Nat->Option Nat):Prop where
 low:s.low=0\/s.low=s.half
 len:2*s.half<=s.ws.length
 wl:s.ws.length<=1000000
 lf:s.low<=s.free
 ft:s.free<=s.top
 tp:s.top+st.length=s.low+s.half
 NR:∀(i:Nat)(w:Wd),st[i]?=some w->∃x,s.ws[s.low+s.half-1-i]?=some x/\RW φ h x w
 fl:fc.length=fns.length
 fn:∀(i:Nat)(a:Nat),fns[i]?=some a->∃x,fc[i]?=some x/\Rf φ h x a
 N3:∀a p,φ a=some p->∃nd,h[a]?=some nd/\s.low<=p/\p+sz nd<=s.free/\At s.ws φ h p nd
 Qz:∀a a' p p' nd nd',φ a=some p->φ a'=some p'->h[a]?=some nd->h[a']?=some nd'->a≠a'->p+sz nd<=p'\/p'+sz nd'<=p
 ok:∀(a:Nat)(nd:Nd),h[a]?=some nd->PT nd
 fw:∀(a b:Nat),h[a]?=some (.fwd b)->∃nd,h[b]?=some nd/\Ks nd=false
def can (h:List Nd) (a:Nat):Nat:=
 match h[a]? with
 |some (.fwd b)=>b
 |_=>a
theorem Rh{α:Type}(L:List α)(off:Nat)(cs:List α)(i:Nat)(h:off+cs.length<=L.length:=by omega):(Go.splice L off cs)[i]?=if i<off then L[i]? else if i<off+cs.length then cs[i-off]? else L[i]?:=by
 unfold Go.splice;rw[OQ,NQ,Sa (by omega)];split
 .next hi=>rw[Qf,nB hi]
 .next hi=>
  rw[OQ];split
  .next h2=>rw[Ji]
  .next h2=>rw[qj,Qe];congr 1;omega
theorem zju:∀(n:Nat)(l:List Nat),l.Nodup->(∀x∈l,x<n)->l.length<=n
 |0,l,_,h=>by
  cases l with
  |nil=>simp
  |cons x l=>have:=h x (by simp);omega
 |n+1,l,hn,h=>by
  by_cases hm:n∈l
  .have h1:=zju n (l.erase n) (hn.erase n) (λx hx=>by
    have h2:=List.mem_of_mem_erase hx;have h3:=h x h2;have h4:x≠n:=λe=>by subst e;exact(List.Nodup.not_mem_erase hn) hx
    omega)
   rw[List.length_erase_of_mem hm]at h1;omega
  .have h1:=zju n l hn (λx hx=>by
    have h3:=h x hx;have h4:x≠n:=λe=>hm (e▸hx)
    omega)
   omega
theorem ztZ(lo hi:Nat)(l:List (Nat × Nat))(h1:∀x∈l,lo<=x.1/\x.1+x.2<=hi)(h2:l.Pairwise λx y=>x.1+x.2<=y.1\/y.1+y.2<=x.1):(l.map Prod.snd).sum<=hi-lo:=by
 have hl:∀l:List (Nat × Nat),(l.flatMap λx=>(List.range x.2).map λj=>x.1-lo+j).length=(l.map Prod.snd).sum:=by
  intro l
  induction l with
  |nil=>rfl
  |cons x l ih=>simp[List.flatMap_cons,ih]
 have cQ:∀(l:List (Nat × Nat))(y:Nat),y∈(l.flatMap λx=>(List.range x.2).map λj=>x.1-lo+j)->∃x∈l,x.1-lo<=y/\y<x.1-lo+x.2:=by intro l y hy;obtain⟨x,hx,hy⟩:=List.mem_flatMap.1 hy;obtain⟨j,hj,rfl⟩:=Ro.1 hy;have:=List.mem_range.1 hj;exact⟨x,hx,by omega,by omega⟩
 have eZ:∀l:List (Nat × Nat),(∀x∈l,lo<=x.1)->(l.Pairwise λx y=>x.1+x.2<=y.1\/y.1+y.2<=x.1)->(l.flatMap λx=>(List.range x.2).map λj=>x.1-lo+j).Nodup:=by
  intro l fN hp
  induction l with
  |nil=>simp
  |cons x l ih=>
   rw[JS,List.nodup_append];rw[List.pairwise_cons]at hp;refine⟨?_,ih (λy hy=>fN y (by simp[hy])) hp.2,?_⟩
   .rw[List.Nodup,JX];exact List.Pairwise.imp (λh=>by omega) List.nodup_range
   .intro a ha b hb;obtain⟨j,hj,rfl⟩:=Ro.1 ha;have:=List.mem_range.1 hj;obtain⟨y,hy,y1,y2⟩:=cQ l b hb;have h3:=hp.1 y hy;have h4:=fN x (by simp);have h5:=fN y (by simp[hy]);omega
 rw[<-hl];refine zju _ _ (eZ l (λx hx=>(h1 x hx).1) h2) ?_;intro y hy;obtain⟨x,hx,y1,y2⟩:=cQ l y hy;have:=h1 x hx;omega
def OM (h:List Nd) (a:Nat):Nat:=
 match h[a]? with
 |some nd=>sz nd
 |none=>1
def pos (h:List Nd) (base:Nat) (C:List Nat) (i:Nat):Nat:=base+((C.take i).map (OM h)).sum
def OT (h:List Nd) (base:Nat) (C:List Nat) (a:Nat):Option Nat:=if a∈C then some (pos h base C (C.idxOf a))else none
variable {h:List Nd}{base:Nat}{C D:List Nat}{i:Nat}
theorem Xp(hi:i<=C.length):pos h base (C++D) i=pos h base C i:=by unfold pos;rw[List.take_append_of_le_length hi]
variable {c:Nat}
theorem YQ(hc:C[i]?=some c):pos h base C (i+1)=pos h base C i+OM h c:=by unfold pos;rw[T9,hc];simp;omega
variable {j:Nat}
theorem Vp(ki:i<=j):pos h base C i<=pos h base C j:=by
 unfold pos;have h1:C.take i=(C.take j).take i:=by rw[U6,Sa ki]
 have h2:((C.take j).map (OM h)).sum=(((C.take j).take i).map (OM h)).sum+(((C.take j).drop i).map (OM h)).sum:=by rw[<-TH,<-SO,U5]
 rw[<-h1]at h2;omega
theorem Tv(hc:C[i]?=some c)(ki:i<j):pos h base C i+OM h c<=pos h base C j:=by rw[<-YQ hc];exact Vp ki
variable {a p:Nat}
theorem ztP(hp:OT h base C a=some p):OT h base (C++D) a=some p:=by
 unfold OT at hp|-;split at hp
 .next hm=>rw[nB (by simp[hm])];rw[List.idxOf_append,nB hm,Xp (SY (TI hm))];exact hp
 .cases hp
variable {x:Int}
theorem Rf.app(hr:Rf (OT h base C) h x a):Rf (OT h base (C++D)) h x a:=by
 obtain⟨p,hx,hp⟩:=hr;refine⟨p,hx,?_⟩;rcases hp with hp|⟨b,hb,hp⟩
 .exact .inl (ztP hp)
 .exact .inr ⟨b,hb,ztP hp⟩
theorem RW.app{h:List Nd}{base:Nat}{C D:List Nat}{x:Int}{w:Wd}(hr:RW (OT h base C) h x w):RW (OT h base (C++D)) h x w:=by
 cases w with
 |ad a=>exact Rf.app hr
 |mk k b=>exact hr
variable {φ:Nat->Option Nat}
theorem At.congr{ws ws':List Int}(hw:∀j,p<=j->j<p+sz nd->ws'[j]?=ws[j]?)(ha:At ws φ h p nd):At ws' φ h p nd:=by
 have hp:=SK nd;rcases ha with⟨b,p',h1,h2,h3⟩|⟨h1,h2,h3,h4⟩
 .exact .inl ⟨b,p',h1,h2,by rw[hw p (qP _) (by omega)];exact h3⟩
 .refine .inr ⟨h1,by rw[hw p (qP _) (by omega)];exact h2,λv hv=>?_,λi f hf=>?_⟩
  .rw[hw (p+1) (by omega) (by subst hv;simp[sz])];exact h3 v hv
  .have hl:=(Dq.1 hf).1;have hs:=SC nd;obtain⟨x,hx,hr⟩:=h4 i f hf;exact⟨x,by rw[hw (p+1+i) (by omega) (by omega)];exact hx,hr⟩
structure Old (h:List Nd) (φ:Nat->Option Nat) (cq qR half n:Nat):Prop where
 N3:∀a p,φ a=some p->∃nd,h[a]?=some nd/\cq<=p/\p+sz nd<=qR
 Qz:∀a a' p p' nd nd',φ a=some p->φ a'=some p'->h[a]?=some nd->h[a']?=some nd'->a≠a'->p+sz nd<=p'\/p'+sz nd'<=p
 ok:∀(a:Nat)(nd:Nd),h[a]?=some nd->PT nd
 fw:∀(a b:Nat),h[a]?=some (.fwd b)->∃nd,h[b]?=some nd/\Ks nd=false
 rm:qR+n<=cq+half
 lf:cq<=qR
structure GI (P:Nat->Prop) (h:List Nd) (φ:Nat->Option Nat) (st:List Wd) (cq au half t:Nat) (s:nG) (C:List Nat) (bY fh:Nat):Prop where
 lw:s.low=au
 hf:s.half=half
 tp:s.top=t
 hv:(cq=0/\au=half)\/(cq=half/\au=0)
 len:2*half<=s.ws.length
 wl:s.ws.length<=1000000
 fr:s.free=pos h au C C.length
 tt:t+st.length=au+half
 nd:C.Nodup
 cm:∀c∈C,∃p n,φ c=some p/\h[c]?=some n/\Ks n=false
 TU:∀a p,φ a=some p->a ∉ C->∃n,h[a]?=some n/\At s.ws φ h p n
 new:∀(i c:Nat),C[i]?=some c->∃p n,φ c=some p/\h[c]?=some n/\s.ws[p]?=some (Hd 5 (pos h au C i) 0)/\s.ws[pos h au C i]?=some (Ip n)/\∀v,n=.num v->s.ws[pos h au C i+1]?=some v
 Sh:∀(i c:Nat)(n:Nd)(j f:Nat),C[i]?=some c->h[c]?=some n->(Mt n)[j]?=some f->∃x,s.ws[pos h au C i+1+j]?=some x/\if pos h au C i+1+j<fh then Rf (OT h au C) h x f else Rf φ h x f
 NR:∀(i:Nat)(w:Wd),st[i]?=some w->∃x,s.ws[au+half-1-i]?=some x/\if au+half-1-i<bY then RW (OT h au C) h x w else RW φ h x w
 lm:fh<=s.free
 pc:∀c∈C,P c
theorem Pe{n:Nd}(hn:h[a]?=some n):OM h a=sz n:=by unfold OM;rw[hn]
variable {s:nG}
theorem GI.room{P:Nat->Prop}{st:List Wd}{cq qR au half t:Nat}{bY fh:Nat}(E:Old h φ cq qR half st.length)(G:GI P h φ st cq au half t s C bY fh)(hD:D.Nodup)(hm:∀c∈D,∃p n,φ c=some p/\h[c]?=some n/\Ks n=false):au+(D.map (OM h)).sum<=t:=by
 have h1:=ztZ cq qR (D.map λc=>((φ c).getD 0,OM h c)) (λx hx=>by
  obtain⟨c,hc,rfl⟩:=Ro.1 hx;obtain⟨p,n,e1,e2,_⟩:=hm c hc;obtain⟨n',e3,e4,e5⟩:=E.N3 c p e1;rw[e2]at e3;cases e3;simp only[e1,Wp,Pe e2];exact⟨e4,e5⟩) (by
  rw[JX];refine List.Pairwise.imp_of_mem (λ{a b}ha hb aH=>?_) hD;obtain⟨p,n,e1,e2,_⟩:=hm a ha;obtain⟨p',n',e3,e4,_⟩:=hm b hb;simp only[e1,e3,Wp,Pe e2,Pe e4];exact E.Qz a b p p' n n' e1 e3 e2 e4 aH)
 rw[Ke]at h1;have h2:(Prod.snd ∘ λc=>((φ c).getD 0,OM h c))=OM h:=rfl;rw[h2]at h1;have:=E.rm;have:=E.lf;have:=G.tt;rcases G.hv with⟨a,b⟩|⟨a,b⟩<;>omega
variable {b:Nat}
theorem zja{P:Nat->Prop}{st:List Wd}{cq qR au half t:Nat}{bY fh:Nat}(E:Old h φ cq qR half st.length)(G:GI P h φ st cq au half t s C bY fh){a0:Nat}{n:Nd}(hb:φ b=some p)(hn:h[b]?=some n)(hf:Ks n=false)(hP:P b)(h0:s.ws[a0]?=some x)(cX:0<=x)(ee:x<9223372036854775808)(hq:(if x%16=4 then(x/65536).toNat else a0)=p):
  ∃r s' D,s.SH a0=some (r,s')/\GI P h φ st cq au half t s' (C++D) bY fh/\OT h au (C++D) b=some r/\s'.ws.length=s.ws.length:=by
 unfold nG.SH;rw[h0];simp only;rw[qj,hq];by_cases hm:b∈C
 .obtain⟨i,hi,GF⟩:=List.getElem_of_mem hm;have lg:C[C.idxOf b]?=some b:=by rw[Iv (TI hm),JH]
  obtain⟨p',n',e1,e2,e3,e4,e5⟩:=G.new _ b lg;rw[hb]at e1;cases e1;rw[e3];have hr:0<=Hd 5 (pos h au C (C.idxOf b)) 0/\Hd 5 (pos h au C (C.idxOf b)) 0<9223372036854775808:=by
   have h1:pos h au C (C.idxOf b)<=pos h au C C.length:=Vp (SY (TI hm));have h2:=G.room E G.nd G.cm;have h3:pos h au C C.length=au+(C.map (OM h)).sum:=by unfold pos;rw[UY]
   have h4:=G.tt;have h5:=G.wl;have h6:=G.len;unfold Hd;rcases G.hv with⟨a,b⟩|⟨a,b⟩<;>omega
  have EF:Hd 5 (pos h au C (C.idxOf b)) 0%16=5:=Pg;have dK:Hd 5 (pos h au C (C.idxOf b)) 0/65536=(pos h au C (C.idxOf b):Nat):=RP (by omega);simp only;rw[qj,nB EF,dK,MO];refine⟨pos h au C (C.idxOf b),s,[],rfl,by rw[Rq];exact G,?_,rfl⟩;rw[Rq];unfold OT;rw[nB hm]
 .obtain⟨n',e1,e2⟩:=G.TU b p hb hm;rw[hn]at e1;cases e1;have bU:=E.ok b n hn;have aV:Rr s.ws (Rf φ h) p n:=by
   rcases e2 with⟨b',p',h1,_⟩|⟨_,h2⟩
   .rw[h1]at hf;simp[Ks]at hf
   .exact h2
  obtain⟨c1,c2,c3⟩:=aV;obtain⟨r1,r2⟩:=Uz bU;obtain⟨k1,k2⟩:=zmn hf;have xl:=zlr bU hf;obtain⟨n',e3,e4,e5⟩:=E.N3 b p hb;rw[hn]at e3;cases e3;have lY:∀c∈C++[b],∃p n,φ c=some p/\h[c]?=some n/\Ks n=false:=by
   intro c hc;rcases Ni.1 hc with hc|hc
   .exact G.cm c hc
   .rw[NA.1 hc];exact⟨p,n,hb,hn,hf⟩
  have eZ:(C++[b]).Nodup:=by rw[List.nodup_append];exact⟨G.nd,by simp,λx hx y hy=>by rw[NA.1 hy];exactλe=>hm (e▸hx)⟩
  have ew:=G.room E eZ lY;have ak:s.free=au+(C.map (OM h)).sum:=by rw[G.fr];unfold pos;rw[UY]
  rw[SO,TH]at ew;simp only[Ki,qO,MW,Jv,Pe hn]at ew;have mi:=G.tt;have hlen:=G.len;have eE:=G.wl;have AL:=E.rm;have eB:1<=sz n:=SK n;have sF:au<=s.free:=by omega
  have iY:s.free+sz n<=t:=by omega
  have An:p+sz n<=cq+half:=by omega
  have x6:p+sz n<=s.free\/au+half<=p:=by rcases G.hv with⟨a,b⟩|⟨a,b⟩<;>omega
  have GN:au+half<=s.ws.length:=by rcases G.hv with⟨a,b⟩|⟨a,b⟩<;>omega
  have Fk:cq+half<=s.ws.length:=by rcases G.hv with⟨a,b⟩|⟨a,b⟩<;>omega
  rw[c1];simp only;rw[qj,pL k2,nB ⟨by omega,by omega,by omega⟩];obtain⟨ws',po⟩:∃ws',ws'=(Go.splice (s.ws.set s.free (Ip n)) (s.free+1) ((s.ws.drop (p+1)).take (behind (Ip n)))).set p (Hd 5 s.free 0):=⟨_,rfl⟩;have aN:((s.ws.drop (p+1)).take (behind (Ip n))).length=behind (Ip n):=by rw[NQ,Oo];omega
  have aY:∀j,ws'[j]?=if j=p then some (Hd 5 s.free 0)else if j=s.free then some (Ip n)else if s.free<j/\j<s.free+sz n then s.ws[p+(j-s.free)]? else s.ws[j]?:=by
   intro j;have aK:(Go.splice (s.ws.set s.free (Ip n)) (s.free+1) ((s.ws.drop (p+1)).take (behind (Ip n)))).length=s.ws.length:=by rw[Q1 _ _ _ (by rw[MH,aN];omega),MH]
   rw[po,Kw,aK];by_cases hj:j=p
   .subst hj;rw[nB rfl,Ji,nB rfl]
   .rw[pL (λe=>hj e.symm),pL hj,Rh _ _ _ _ (by rw[MH,aN];omega),aN];by_cases lh:j=s.free
    .subst lh;rw[nB rfl,Ji,Kw,nB rfl,Ji]
    .have cS:(s.ws.set s.free (Ip n))[j]?=s.ws[j]?:=by rw[Kw,pL (λe=>lh e.symm)]
     rw[pL lh];by_cases h3:s.free<j/\j<s.free+sz n
     .rw[nB h3,qj,Ji,Qf,Ji,Qe];congr 1;omega
     .rw[pL h3];by_cases h4:j<s.free+1
      .rw[nB h4,cS]
      .rw[pL h4,qj,cS]
  have gK:pos h au (C++[b]) C.length=s.free:=by rw[Xp (qP _),G.fr]
  have ll:(C++[b])[C.length]?=some b:=by simp
  have E4:pos h au (C++[b]) (C.length+1)=s.free+sz n:=by rw[YQ ll,gK,Pe hn]
  have yh:ws'.length=s.ws.length:=by rw[po,MH,Q1 _ _ _ (by rw[MH,aN];omega),MH]
  have dC:∀j,j≠p->(j<s.free\/s.free+sz n<=j)->ws'[j]?=s.ws[j]?:=by intro j h1 h2;rw[aY,pL h1,qj,qj]
  have bp:∀i c,C[i]?=some c->i<C.length/\pos h au C i+OM h c<=s.free/\au<=pos h au C i/\pos h au (C++[b]) i=pos h au C i:=by intro i c hc;have br:=(Dq.1 hc).1;refine⟨br,by rw[G.fr];exact Tv hc br,by unfold pos;omega,Xp (SY br)⟩
  have gU:∀j,au<=j->j<au+half->j≠p:=by
   intro j h1 h2 e;rcases x6 with h3|h3
   .rcases G.hv with⟨a,b⟩|⟨a,b⟩<;>omega
   .omega
  have hget?:∀(i c:Nat),(C++[b])[i]?=some c->(C[i]?=some c)\/(i=C.length/\c=b):=by
   intro i c hc;rw[OQ]at hc;split at hc
   .exact .inl hc
   .next nO=>
    have:=(Dq.1 hc).1;simp at this;have h1:i-C.length=0:=by omega
    rw[h1]at hc;simp at hc;exact .inr ⟨by omega,hc.symm⟩
  refine⟨s.free,{ s with free:=s.free+1+behind (Ip n),ws:=ws' },[b],by rw[po],⟨G.lw,G.hf,G.tp,G.hv,by simp only;omega,by simp only;omega,?_,G.tt,eZ,lY,?_,?_,?_,?_,?_,?_⟩,?_,yh⟩
  .simp only[IJ,Ng];rw[E4];omega
  .intro a q hq ha;have gm:a ∉ C:=λe=>ha (by simp[e])
   have D8:a≠b:=λe=>ha (by simp[e])
   obtain⟨na,g1,g2⟩:=G.TU a q hq gm;refine⟨na,g1,g2.congr (λj j1 j2=>?_)⟩;obtain⟨GS,g3,g4,g5⟩:=E.N3 a q hq;rw[g1]at g3;cases g3;have hd:=E.Qz a b q p na n hq hb g1 hn D8;refine dC j (by omega) ?_;rcases G.hv with⟨a,b⟩|⟨a,b⟩<;>omega
  .intro i c hc;rcases hget? i c hc with hc|⟨rfl,rfl⟩
   .obtain⟨i1,i2,i3,i4⟩:=bp i c hc;obtain⟨q,m,g1,g2,g3,g4,g5⟩:=G.new i c hc;rw[Pe g2]at i2;have uQ:=SK m;rw[i4];obtain⟨m',g6,g7,g8⟩:=E.N3 c q g1;rw[g2]at g6;cases g6;have jl:c≠b:=λe=>hm (e▸ML hc)
    have hd:=E.Qz c b q p m n g1 hb g2 hn jl;refine⟨q,m,g1,g2,?_,?_,λv hv=>?_⟩
    .rw[dC q (by omega) (by rcases G.hv with⟨a,b⟩|⟨a,b⟩<;>omega)];exact g3
    .rw[dC _ (gU _ i3 (by omega)) (by omega)];exact g4
    .have:sz m=2:=by rw[hv];rfl
     rw[dC _ (gU _ (by omega) (by omega)) (by omega)];exact g5 v hv
   .rw[gK];refine⟨p,n,hb,hn,?_,?_,λv hv=>?_⟩
    .rw[aY,nB rfl]
    .rw[aY,pL (gU _ sF (by omega)),nB rfl]
    .have aI:sz n=2:=by rw[hv];rfl
     rw[aY,pL (gU _ (by omega) (by omega)),qj,Ji,show p+(s.free+1-s.free)=p+1 by omega];exact c2 v hv
  .intro i c m j f hc fO dr;have gT:=(Dq.1 dr).1;have Fa:=SC m;rcases hget? i c hc with hc|⟨rfl,rfl⟩
   .obtain⟨i1,i2,i3,i4⟩:=bp i c hc;rw[Pe fO]at i2;rw[i4];obtain⟨x,g1,g2⟩:=G.Sh i c m j f hc fO dr;refine⟨x,by rw[dC _ (gU _ (by omega) (by omega)) (by omega)];exact g1,?_⟩;split at g2
    .next aj=>rw[nB aj];exact g2.app
    .next aj=>rw[pL aj];exact g2
   .rw[hn]at fO;cases fO;rw[gK];have GK:=G.lm;obtain⟨x,g1,g2⟩:=c3 j f dr;refine⟨x,?_,by rw[qj];exact g2⟩;rw[aY,pL (gU _ (by omega) (by omega)),qj,Ji,show p+(s.free+1+j-s.free)=p+1+j by omega];exact g1
  .intro i w hw;have br:=(Dq.1 hw).1;obtain⟨x,g1,g2⟩:=G.NR i w hw;refine⟨x,by rw[dC _ (gU _ (by omega) (by omega)) (by omega)];exact g1,?_⟩;split at g2
   .next aj=>rw[nB aj];exact g2.app
   .next aj=>rw[pL aj];exact g2
  .have:=G.lm;simp only;omega
  .intro c hc;rcases Ni.1 hc with hc|hc
   .exact G.pc c hc
   .rw[NA.1 hc];exact hP
  .unfold OT;rw[nB (by simp),List.idxOf_append,pL hm];simp[gK]
variable {P:Nat->Prop} {h:List Nd} {φ:Nat->Option Nat} {st:List Wd} {cq qR au half t:Nat} {s:nG} {C:List Nat} {bY fh:Nat}
theorem zle(E:Old h φ cq qR half st.length)(G:GI P h φ st cq au half t s C bY fh){n:Nd}(hb:φ b=some p)(hn:h[b]?=some n)(hf:Ks n=false):∃x,s.ws[p]?=some x/\0<=x/\x<9223372036854775808/\x%16≠4:=by
 by_cases hm:b∈C
 .have lg:C[C.idxOf b]?=some b:=by rw[Iv (TI hm),JH]
  obtain⟨p',n',e1,e2,e3,_⟩:=G.new _ b lg;rw[hb]at e1;cases e1;have h1:pos h au C (C.idxOf b)<=pos h au C C.length:=Vp (SY (TI hm));have h2:=G.room E G.nd G.cm;have h3:pos h au C C.length=au+(C.map (OM h)).sum:=by unfold pos;rw[UY]
  have h4:=G.tt;have h5:=G.wl;have h6:=G.len;refine⟨_,e3,?_,?_,?_⟩
  .unfold Hd;omega
  .unfold Hd;rcases G.hv with⟨a,b⟩|⟨a,b⟩<;>omega
  .rw[Pg];omega
 .obtain⟨n',e1,e2⟩:=G.TU b p hb hm;rw[hn]at e1;cases e1;rcases e2 with⟨b',p',h1,_⟩|⟨_,h2,_⟩
  .rw[h1]at hf;simp[Ks]at hf
  .obtain⟨r1,r2⟩:=Uz (E.ok b n hn);exact⟨_,h2,r1,r2,(zmn hf).1⟩
theorem Uy{n:Nd}(hn:h[a]?=some n)(hf:Ks n=false):can h a=a:=by unfold can;rw[hn];cases n<;>first|rfl|simp[Ks]at hf
theorem UL(hn:h[a]?=some (.fwd b)):can h a=b:=by unfold can;rw[hn]
theorem zmc(E:Old h φ cq qR half st.length)(G:GI P h φ st cq au half t s C bY fh)(hr:Rf φ h x a)(hP:P (can h a)):
  0<=x/\∃r s' D,s.SH x.toNat=some (r,s')/\GI P h φ st cq au half t s' (C++D) bY fh/\Rf (OT h au (C++D)) h (r:Int) a/\s'.ws.length=s.ws.length:=by
 obtain⟨p,rfl,hp⟩:=hr;refine⟨by omega,?_⟩;rw[MO];rcases hp with hp|⟨b,hb,hp⟩
 .obtain⟨n,hn,_,_⟩:=E.N3 a p hp;cases gr:Ks n with
  |false=>rw[Uy hn gr]at hP;obtain⟨x,x1,x2,x3,x4⟩:=zle E G hp hn gr;obtain⟨r,s',D,c1,c2,c3,c4⟩:=zja E G hp hn gr hP x1 x2 x3 (by rw[pL x4]);exact⟨r,s',D,c1,c2,⟨r,rfl,.inl c3⟩,c4⟩
  |true=>
   cases n with
   |fwd b=>
    rw[UL hn]at hP;obtain⟨nb,iJ,jZ⟩:=E.fw a b hn;have D9:a ∉ C:=λhm=>by obtain⟨_,n',_,e2,e3⟩:=G.cm a hm;rw[hn]at e2;cases e2;simp[Ks]at e3
    obtain⟨n',e1,e2⟩:=G.TU a p hp D9;rw[hn]at e1;cases e1;rcases e2 with⟨b',p',h1,h2,h3⟩|⟨h1,_⟩
    .cases h1;obtain⟨_,_,sN,fB⟩:=E.N3 b p' h2;have AL:=E.rm;have hlen:=G.len;have eE:=G.wl;have gK:p'<=1000000:=by rcases G.hv with⟨a,b⟩|⟨a,b⟩<;>omega
     have hk:Hd 4 p' 0%16=4:=Pg;have hw:Hd 4 p' 0/65536=(p':Int):=RP (by omega);obtain⟨r,s',D,c1,c2,c3,c4⟩:=zja E G h2 iJ jZ hP h3 (by unfold Hd;omega) (by unfold Hd;omega) (by rw[nB hk,hw,MO]);exact⟨r,s',D,c1,c2,⟨r,rfl,.inr ⟨b,hn,c3⟩⟩,c4⟩
    .simp[Ks]at h1
   |_=>simp[Ks]at gr
 .obtain⟨nb,iJ,jZ⟩:=E.fw a b hb;rw[UL hb]at hP;obtain⟨x,x1,x2,x3,x4⟩:=zle E G hp iJ jZ;obtain⟨r,s',D,c1,c2,c3,c4⟩:=zja E G hp iJ jZ hP x1 x2 x3 (by rw[pL x4]);exact⟨r,s',D,c1,c2,⟨r,rfl,.inr ⟨b,hb,c3⟩⟩,c4⟩
theorem GI.UD(E:Old h φ cq qR half st.length)(G:GI P h φ st cq au half t s C bY fh):au<=s.free/\s.free<=t/\au+half<=s.ws.length:=by
 have h2:=G.room E G.nd G.cm;have h3:pos h au C C.length=au+(C.map (OM h)).sum:=by unfold pos;rw[UY]
 have:=G.fr;have:=G.len;refine⟨by omega,by omega,?_⟩;rcases G.hv with⟨a,b⟩|⟨a,b⟩<;>omega
theorem GI.VD(G:GI P h φ st cq au half t s C bY fh){n:Nd}(hc:C[i]?=some c)(hn:h[c]?=some n):au<=pos h au C i/\pos h au C i+sz n<=s.free:=by refine⟨by unfold pos;omega,?_⟩;rw[<-Pe hn,G.fr];exact Tv hc (Dq.1 hc).1
theorem GI.Zd(E:Old h φ cq qR half st.length)(G:GI P h φ st cq au half t s C bY fh){n:Nd}(hp:φ a=some p)(hn:h[a]?=some n):∀j,p<=j->j<p+sz n->¬(au<=j/\j<au+half):=by intro j j1 j2 j3;obtain⟨n',e1,e2,e3⟩:=E.N3 a p hp;rw[hn]at e1;cases e1;have:=E.rm;rcases G.hv with⟨a,b⟩|⟨a,b⟩<;>omega
theorem GI.Wh(E:Old h φ cq qR half st.length){o:Nat}{w:Wd}{r:Int}(G:GI P h φ st cq au half t s C o fh)(hw:st[i]?=some w)(ho:o=au+half-1-i)(hr:RW (OT h au C) h r w):GI P h φ st cq au half t { s with ws:=s.ws.set o r } C (o+1) fh:=by
 obtain⟨f1,f2,f3⟩:=G.UD E;have br:=(Dq.1 hw).1;have mi:=G.tt;have AL:=E.rm;have bS:∀j,j≠o->(s.ws.set o r)[j]?=s.ws[j]?:=λj hj=>by rw[Kw,pL (λe=>hj e.symm)]
 refine⟨G.lw,G.hf,G.tp,G.hv,by simp only[MH];exact G.len,by simp only[MH];exact G.wl,G.fr,G.tt,G.nd,G.cm,?_,?_,?_,?_,G.lm,G.pc⟩
 .intro a p hp ha;obtain⟨n,e1,e2⟩:=G.TU a p hp ha;refine⟨n,e1,e2.congr (λj j1 j2=>bS j (λe=>?_))⟩;exact G.Zd E hp e1 j j1 j2 (by omega)
 .intro k c hc;obtain⟨p,n,e1,e2,e3,e4,e5⟩:=G.new k c hc;obtain⟨p1,p2⟩:=G.VD hc e2;have hs:=SK n;refine⟨p,n,e1,e2,?_,?_,λv hv=>?_⟩
  .rw[bS p (λe=>G.Zd E e1 e2 p (qP _) (by omega) (by omega))];exact e3
  .rw[bS _ (by omega)];exact e4
  .have:sz n=2:=by rw[hv];rfl
   rw[bS _ (by omega)];exact e5 v hv
 .intro k c n j f hc hn hf;obtain⟨p1,p2⟩:=G.VD hc hn;have gT:=(Dq.1 hf).1;have hs:=SC n;obtain⟨x,g1,g2⟩:=G.Sh k c n j f hc hn hf;exact⟨x,by rw[bS _ (by omega)];exact g1,g2⟩
 .intro k w' fY;have nS:=(Dq.1 fY).1;obtain⟨x,g1,g2⟩:=G.NR k w' fY;by_cases hk:k=i
  .subst hk;rw[hw]at fY;cases fY;refine⟨r,?_,by rw[Ji];exact hr⟩;rw[<-ho];simp only;rw[Kw,nB rfl,Ji]
  .refine⟨x,by simp only;rw[bS _ (by omega)];exact g1,?_⟩;by_cases aj:au+half-1-k<o
   .rw[nB aj]at g2;rw[Ji];exact g2
   .rw[pL aj]at g2;rw[qj];exact g2
theorem zqR{α:Type}{l:List α}{x:α}(hx:l[i]?=some x):l.set i x=l:=by
 apply List.ext_getElem?;intro j;rw[Kw];split
 .next e=>subst e;rw[nB (Dq.1 hx).1,hx]
 .rfl
theorem zgk(E:Old h φ cq qR half st.length)(hP:∀(i a:Nat),st[i]?=some (.ad a)->P (can h a)):∀(k o:Nat)(s:nG)(C:List Nat),GI P h φ st cq au half t s C o fh->o+k=au+half->t<=o->∃s' D,s.PO o k=some s'/\GI P h φ st cq au half t s' (C++D) (au+half) fh
 |0,o,s,C,G,ho,_=>⟨s,[],rfl,by rw[Rq,<-ho];exact G⟩
 |k+1,o,s,C,G,ho,hto=>by
  have mi:=G.tt;obtain⟨w,hw⟩:∃w,st[au+half-1-o]?=some w:=⟨_,Iv (by omega)⟩;obtain⟨x,g1,g2⟩:=G.NR _ w hw;have AB:au+half-1-(au+half-1-o)=o:=by omega
  rw[AB,qj]at g2;rw[AB]at g1;rw[nG.PO,g1];simp only;cases w with
  |mk m b=>
   have hx:x=Mk m b:=g2;have dV:x<0:=by rw[hx];unfold Mk;omega
   rw[nB dV];have G2:=G.Wh E hw (by omega) (r:=x) hx;rw[zqR g1]at G2;exact zgk E hP k (o+1) s C G2 (by omega) (by omega)
  |ad a=>obtain⟨cX,r,s1,D,c1,c2,c3,c4⟩:=zmc E G g2 (hP _ a hw);rw[qj,c1];simp only;have G2:=c2.Wh E hw (by omega) (r:=r) c3;obtain⟨s',D',d1,d2⟩:=zgk E hP k (o+1) _ (C++D) G2 (by omega) (by omega);exact⟨s',D++D',d1,by rw[<-Np];exact d2⟩
theorem znv(E:Old h φ cq qR half st.length):∀(fc:List Int)(fns:List Nat)(s:nG)(C:List Nat),GI P h φ st cq au half t s C bY fh->fc.length=fns.length->(∀(i a:Nat),fns[i]?=some a->∃x,fc[i]?=some x/\Rf φ h x a)->(∀a∈fns,P (can h a)) ->
  ∃kd s' D,s.QF fc=some (kd,s')/\GI P h φ st cq au half t s' (C++D) bY fh/\kd.length=fns.length/\∀(i a:Nat),fns[i]?=some a->∃x,kd[i]?=some x/\Rf (OT h au (C++D)) h x a
 |[],fns,s,C,G,hl,_,_=>⟨[],s,[],rfl,by rw[Rq];exact G,hl,λi a ha=>by have:fns=[]:=Pl.1 hl.symm;rw[this]at ha;simp at ha⟩
 |x::fc,[],s,C,G,hl,_,_=>by simp at hl
 |x::fc,a::fns,s,C,G,hl,hr,hP=>by
  obtain⟨x',e1,e2⟩:=hr 0 a rfl;simp at e1;subst e1;obtain⟨cX,r,s1,D,c1,c2,c3,c4⟩:=zmc E G e2 (hP a (by simp));rw[nG.QF,qj,c1];simp only;obtain⟨kd,s',D',d1,d2,d3,d4⟩:=znv E fc fns s1 (C++D) c2 (by simpa using hl) (λi b hb=>by obtain⟨y,y1,y2⟩:=hr (i+1) b (by simpa using hb);exact⟨y,by simpa using y1,y2⟩) (λb hb=>hP b (by simp[hb]))
  rw[d1];refine⟨(r:Int)::kd,s',D++D',rfl,by rw[<-Np];exact d2,by simp[d3],λi b hb=>?_⟩;rw[<-Np];cases i with
  |zero=>simp at hb;subst hb;exact⟨r,rfl,c3.app⟩
  |succ i=>obtain⟨y,y1,y2⟩:=d4 i b (by simpa using hb);exact⟨y,by simpa using y1,y2⟩
variable {P:Nat->Prop} {h:List Nd} {φ:Nat->Option Nat} {st:List Wd} {cq qR au half t:Nat} {s:nG} {C:List Nat} {bY fh:Nat}
theorem GI.raise(G:GI P h φ st cq au half t s C bY fh){lim':Nat}(hle:fh<=lim')(hl:lim'<=s.free)(nT:∀(i c:Nat)(n:Nd)(j f:Nat),C[i]?=some c->h[c]?=some n->(Mt n)[j]?=some f->pos h au C i+1+j<fh\/lim'<=pos h au C i+1+j):GI P h φ st cq au half t s C bY lim':=by
 refine⟨G.lw,G.hf,G.tp,G.hv,G.len,G.wl,G.fr,G.tt,G.nd,G.cm,G.TU,G.new,?_,G.NR,hl,G.pc⟩;intro i c n j f hc hn hf;obtain⟨x,g1,g2⟩:=G.Sh i c n j f hc hn hf;refine⟨x,g1,?_⟩;have:=nT i c n j f hc hn hf;by_cases aj:pos h au C i+1+j<fh
 .rw[nB aj]at g2;rw[Ji];exact g2
 .rw[pL aj]at g2;rw[qj];exact g2
theorem GI.Zx(E:Old h φ cq qR half st.length){o f:Nat}{n:Nd}{r:Int}(G:GI P h φ st cq au half t s C bY o)(hc:C[i]?=some c)(hn:h[c]?=some n)(hf:(Mt n)[j]?=some f)(ho:o=pos h au C i+1+j)(hr:Rf (OT h au C) h r f):GI P h φ st cq au half t { s with ws:=s.ws.set o r } C bY (o+1):=by
 obtain⟨f1,f2,f3⟩:=G.UD E;obtain⟨q1,q2⟩:=G.VD hc hn;have gT:=(Dq.1 hf).1;have fD:=SC n;have mi:=G.tt;have bS:∀j,j≠o->(s.ws.set o r)[j]?=s.ws[j]?:=λj hj=>by rw[Kw,pL (λe=>hj e.symm)]
 have sw:∀(i' c':Nat)(n':Nd),C[i']?=some c'->h[c']?=some n'->i'≠i->pos h au C i'+sz n'<=pos h au C i\/pos h au C i+sz n<=pos h au C i':=by
  intro i' c' n' eV gw aH;rcases Nat.lt_or_gt_of_ne aH with aj|aj
  .left;rw[<-Pe gw];exact Tv eV aj
  .right;rw[<-Pe hn];exact Tv hc aj
 refine⟨G.lw,G.hf,G.tp,G.hv,by simp only[MH];exact G.len,by simp only[MH];exact G.wl,G.fr,G.tt,G.nd,G.cm,?_,?_,?_,?_,by simp only;omega,G.pc⟩
 .intro a p hp ha;obtain⟨m,e1,e2⟩:=G.TU a p hp ha;refine⟨m,e1,e2.congr (λj j1 j2=>bS j (λe=>?_))⟩;exact G.Zd E hp e1 j j1 j2 (by omega)
 .intro k c' eV;obtain⟨p,m,e1,e2,e3,e4,e5⟩:=G.new k c' eV;obtain⟨p1,p2⟩:=G.VD eV e2;have hs:=SK m;have aH:pos h au C k≠o/\(sz m=2->Mt m=[]->pos h au C k+1≠o):=by
   by_cases hk:k=i
   .subst hk;rw[hc]at eV;cases eV;rw[hn]at e2;cases e2;refine⟨by omega,λ_ h0=>?_⟩;rw[h0]at hf;simp at hf
   .have:=sw k c' m eV e2 hk;exact⟨by omega,λ_ _=>by omega⟩
  refine⟨p,m,e1,e2,?_,?_,λv hv=>?_⟩
  .rw[bS p (λe=>G.Zd E e1 e2 p (qP _) (by omega) (by omega))];exact e3
  .rw[bS _ aH.1];exact e4
  .rw[bS _ (aH.2 (by rw[hv];rfl) (by rw[hv];rfl))];exact e5 v hv
 .intro k c' m j' f' eV hm dr;obtain⟨x,g1,g2⟩:=G.Sh k c' m j' f' eV hm dr;have EE:=(Dq.1 dr).1;have uQ:=SC m;by_cases n8:pos h au C k+1+j'=o
  .have hk:k=i:=by
    by_cases hk:k=i
    .exact hk
    .have:=sw k c' m eV hm hk;omega
   subst hk;rw[hc]at eV;cases eV;rw[hn]at hm;cases hm;have hj:j'=j:=by omega
   subst hj;rw[hf]at dr;cases dr;refine⟨r,?_,by rw[Ji];exact hr⟩;simp only;rw[n8,Kw,nB rfl,Ji]
  .refine⟨x,by simp only;rw[bS _ n8];exact g1,?_⟩;by_cases aj:pos h au C k+1+j' < o
   .rw[nB aj]at g2;rw[Ji];exact g2
   .rw[pL aj]at g2;rw[qj];exact g2
 .intro k w hw;have nS:=(Dq.1 hw).1;obtain⟨x,g1,g2⟩:=G.NR k w hw;exact⟨x,by simp only;rw[bS _ (by omega)];exact g1,g2⟩
theorem zld(E:Old h φ cq qR half st.length){i c:Nat}{n:Nd}(hn:h[c]?=some n)(hP:∀f∈Mt n,P (can h f)):∀(k j:Nat)(s:nG)(C:List Nat),C[i]?=some c->GI P h φ st cq au half t s C bY (pos h au C i+1+j)->j+k=(Mt n).length ->
  ∃s' D,s.PO (pos h au C i+1+j) k=some s'/\GI P h φ st cq au half t s' (C++D) bY (pos h au C i+1+(Mt n).length)
 |0,j,s,C,hc,G,hj=>⟨s,[],rfl,by rw[Rq,<-hj];exact G⟩
 |k+1,j,s,C,hc,G,hj=>by
  obtain⟨f,hf⟩:∃f,(Mt n)[j]?=some f:=⟨_,Iv (by omega)⟩;obtain⟨x,g1,g2⟩:=G.Sh i c n j f hc hn hf;rw[qj]at g2;obtain⟨cX,r,s1,D,c1,c2,c3,c4⟩:=zmc E G g2 (hP f (ML hf));rw[nG.PO,g1];simp only;rw[qj,c1];simp only;have br:=(Dq.1 hc).1;have bp:pos h au (C++D) i=pos h au C i:=Xp (SY br);have bT:(C++D)[i]?=some c:=by rw[Pq br];exact hc
  have G2:=c2.Zx E bT hn hf (by rw[bp]) c3;have DV:GI P h φ st cq au half t { s1 with ws:=s1.ws.set (pos h au C i+1+j) r } (C++D) bY (pos h au (C++D) i+1+(j+1)):=by rw[bp];exact G2
  obtain⟨s',D',d1,d2⟩:=zld E hn hP k (j+1) _ (C++D) bT DV (by omega);rw[bp]at d1 d2;exact⟨s',D++D',d1,by rw[<-Np];exact d2⟩
theorem zqQ(E:Old h φ cq qR half st.length)(hP:∀(c:Nat)(n:Nd)(f:Nat),P c->h[c]?=some n->f∈Mt n->P (can h f)):∀(fuel k:Nat)(s:nG)(C:List Nat),GI P h φ st cq au half t s C bY (pos h au C k)->k<=C.length->t+1<=pos h au C k+fuel ->
  ∃s' D,s.scan (pos h au C k) fuel=some s'/\GI P h φ st cq au half t s' (C++D) bY s'.free
 |0,k,s,C,G,hk,hf=>by have:=G.lm;have:=G.UD E;omega
 |fuel+1,k,s,C,G,hk,hf=>by
  obtain⟨f1,f2,f3⟩:=G.UD E;rw[nG.scan];by_cases aj:k<C.length
  .obtain⟨c,hc⟩:∃c,C[k]?=some c:=⟨_,Iv aj⟩;obtain⟨p,n,e1,e2,e3,e4,e5⟩:=G.new k c hc;obtain⟨q1,q2⟩:=G.VD hc e2;have hs:=SK n;have Fa:=SC n;obtain⟨_,n',_,e6,gr⟩:=G.cm c (ML hc);rw[e2]at e6;cases e6;have bU:=E.ok c n e2;obtain⟨r1,r2⟩:=Uz bU;have xr:=ztf bU gr;have xl:=zlr bU gr;have mi:=G.tt;rw[Ji,e4];simp only;rw[xr,qj];have nT:∀(i c':Nat)(n':Nd)(j f:Nat),C[i]?=some c'->h[c']?=some n'->(Mt n')[j]?=some f->pos h au C i+1+j<pos h au C k\/pos h au C k+1+0<=pos h au C i+1+j:=by
    intro i c' n' j f eV gw dr;have gT:=(Dq.1 dr).1;have fD:=SC n';by_cases oZ:i<k
    .left;have:=Tv (h:=h) (base:=au) eV oZ;rw[Pe gw]at this;omega
    .right;have:pos h au C k<=pos h au C i:=Vp (by omega);omega
   have G1:=G.raise (lim':=pos h au C k+1+0) (by omega) (by omega) nT;obtain⟨s1,D,d1,d2⟩:=zld E e2 (λf hf=>hP c n f (G.pc c (ML hc)) e2 hf) (Mt n).length 0 s C hc G1 (by omega);rw[PU]at d1;rw[d1];simp only;have bp:pos h au (C++D) k=pos h au C k:=Xp hk;have bT:(C++D)[k]?=some c:=by rw[Pq aj];exact hc
   obtain⟨p',n',g1,g2,g3,g4,g5⟩:=d2.new k c bT;rw[e2]at g2;cases g2;rw[bp]at g4;rw[g4];simp only;rw[qj];have sK:pos h au C k+1+behind (Ip n)=pos h au (C++D) (k+1):=by rw[YQ bT,bp,Pe e2];omega
   rw[sK];have bZ:=d2.UD E;have sQ:pos h au (C++D) (k+1)=pos h au C k+sz n:=by rw[YQ bT,bp,Pe e2]
   have hle:pos h au (C++D) (k+1)<=s1.free:=by rw[d2.fr];exact Vp (by simp;omega)
   have xQ:∀(i c':Nat)(n':Nd)(j f:Nat),(C++D)[i]?=some c'->h[c']?=some n'->(Mt n')[j]?=some f->pos h au (C++D) i+1+j<pos h au C k+1+(Mt n).length\/pos h au (C++D) (k+1)<=pos h au (C++D) i+1+j:=by
    intro i c' n' j f eV gw dr;have gT:=(Dq.1 dr).1;have fD:=SC n';rcases Nat.lt_trichotomy i k with oZ|oZ|oZ
    .left;have:=Tv (h:=h) (base:=au) eV oZ;rw[Pe gw,bp]at this;omega
    .left;subst oZ;rw[bT]at eV;cases eV;rw[e2]at gw;cases gw;rw[bp];omega
    .right;have:pos h au (C++D) (k+1)<=pos h au (C++D) i:=Vp oZ;omega
   have G3:=d2.raise (lim':=pos h au (C++D) (k+1)) (by omega) hle xQ;obtain⟨s',D',m1,m2⟩:=zqQ E hP fuel (k+1) s1 (C++D) G3 (by simp;omega) (by omega);exact⟨s',D++D',m1,by rw[<-Np];exact m2⟩
  .have nS:k=C.length:=by omega
   have uP:pos h au C k=s.free:=by rw[nS,G.fr]
   rw[uP,qj];refine⟨s,[],rfl,?_⟩;rw[Rq];rw[uP]at G;exact G
inductive Reach (h:List Nd) (st:List Wd) (fns:List Nat):Nat->Prop where
 |NR {i a:Nat}:st[i]?=some (.ad a)->Reach h st fns (can h a)
 |fn {a:Nat}:a∈fns->Reach h st fns (can h a)
 |Sh {c:Nat} {n:Nd} {f:Nat}:Reach h st fns c->h[c]?=some n->f∈Mt n->Reach h st fns (can h f)
variable {fc:List Int}{fns:List Nat}
theorem zpj(R:Rel s fc h st fns φ):∃kd s' C,s.collect fc=some (kd,s')/\Rel s' kd h st fns (OT h s'.low C)/\s'.half=s.half/\s'.ws.length=s.ws.length/\C.Nodup/\(∀c∈C,Reach h st fns c)/\s'.free=s'.low+(C.map (OM h)).sum/\∀c∈C,∃n,h[c]?=some n/\Ks n=false:=by
 have sF:=R.low;have hlen:=R.len;have eE:=R.wl;have uM:=R.lf;have iY:=R.ft;have fg:=R.tp;obtain⟨au,xJ⟩:∃au,au=s.half-s.low:=⟨_,rfl⟩;obtain⟨t,ht⟩:∃t,t=au+s.half-st.length:=⟨_,rfl⟩;have hn:s.low+s.half-s.top=st.length:=by omega
 have cu:t+st.length=au+s.half:=by omega
 have E:Old h φ s.low s.free s.half st.length:=⟨λa p hp=>by obtain⟨nd,a1,a2,a3,_⟩:=R.N3 a p hp;exact⟨nd,a1,a2,a3⟩,R.Qz,R.ok,R.fw,by omega,uM⟩
 have hv:(s.low=0/\au=s.half)\/(s.low=s.half/\au=0):=by omega
 have Fb:s.OU={ s with low:=au,free:=au,top:=t,ws:=Go.splice s.ws t ((s.ws.drop s.top).take st.length) }:=by unfold nG.OU;simp only[hn];rw[<-xJ,<-ht]
 have aN:((s.ws.drop s.top).take st.length).length=st.length:=by rw[NQ,Oo];omega
 have ng:t+st.length<=s.ws.length:=by omega
 have aK:(Go.splice s.ws t ((s.ws.drop s.top).take st.length)).length=s.ws.length:=Q1 _ _ _ (by rw[aN];exact ng);have aY:∀j,(Go.splice s.ws t ((s.ws.drop s.top).take st.length))[j]?=if t<=j/\j<au+s.half then s.ws[s.top+(j-t)]? else s.ws[j]?:=by
  intro j;rw[Rh _ _ _ _ (by rw[aN];exact ng),aN];by_cases h1:j<t
  .rw[nB h1,qj]
  .rw[pL h1];by_cases h2:j<t+st.length
   .rw[nB h2,Ji,Qf,Ji,Qe]
   .rw[pL h2,qj]
 have G0:GI (Reach h st fns) h φ st s.low au s.half t { s with low:=au,free:=au,top:=t,ws:=Go.splice s.ws t ((s.ws.drop s.top).take st.length) } [] t au:=by
  refine⟨rfl,rfl,rfl,hv,by simp only;omega,by simp only;omega,by simp[pos],cu,by simp,by simp,?_,by simp,by simp,?_,qP _,by simp⟩
  .intro a p hp _;obtain⟨nd,a1,a2,a3,a4⟩:=R.N3 a p hp;refine⟨nd,a1,a4.congr (λj j1 j2=>?_)⟩;simp only;rw[aY,qj]
  .intro i w hw;have br:=(Dq.1 hw).1;obtain⟨x,x1,x2⟩:=R.NR i w hw;refine⟨x,?_,by rw[qj];exact x2⟩;simp only;rw[aY,Ji,show s.top+(au+s.half-1-i-t)=s.low+s.half-1-i by omega];exact x1
 have DX:∀(i a:Nat),st[i]?=some (.ad a)->Reach h st fns (can h a):=λi a ha=>.NR ha
 obtain⟨s1,D1,b1,G1⟩:=zgk E DX st.length t _ [] G0 cu (qP _);obtain⟨kd,s2,D2,b2,G2,f1,f2⟩:=znv E fc fns s1 ([]++D1) G1 R.fl R.fn (λa ha=>Reach.fn ha);have xU:pos h au ([]++D1++D2) 0=au:=by simp[pos]
 have Ft:=G2.len;obtain⟨s3,D3,b3,G3⟩:=zqQ E (λc n f hc hn hf=>Reach.Sh hc hn hf) (s2.ws.length+1) 0 s2 ([]++D1++D2) (by rw[xU];exact G2) (Kc _) (by rw[xU];have:=(G2.UD E).2.2;omega);rw[xU]at b3;obtain⟨C,hC⟩:∃C,C=[]++D1++D2++D3:=⟨_,rfl⟩;rw[<-hC]at G3;have nM:s.collect fc=some (kd,s3):=by unfold nG.collect;rw[nB ⟨by omega,hlen,by omega,by omega⟩,Fb];simp only;rw[show au+s.half-t=st.length by omega,b1];simp only;rw[b2];simp only;rw[G2.lw,b3]
 obtain⟨q1,q2,q3⟩:=G3.UD E;have o9:∀a p,OT h au C a=some p->∃i n,C[i]?=some a/\p=pos h au C i/\h[a]?=some n/\Ks n=false:=by
  intro a p hp;unfold OT at hp;split at hp
  .next hm=>
   cases hp;have lg:C[C.idxOf a]?=some a:=by rw[Iv (TI hm),JH]
   obtain⟨_,n,_,e2,e3⟩:=G3.cm a hm;exact⟨_,n,lg,rfl,e2,e3⟩
  .cases hp
 refine⟨kd,s3,C,nM,?_,G3.hf,zli nM,G3.nd,G3.pc,?_,λc hc=>?_⟩
 .rw[G3.lw];refine⟨by rw[G3.lw,G3.hf];omega,by rw[G3.hf];exact G3.len,G3.wl,by rw[G3.lw];exact q1,by rw[G3.tp];exact q2,by rw[G3.tp,G3.lw,G3.hf];exact cu,?_,f1,?_,?_,?_,R.ok,R.fw⟩
  .intro i w hw;have br:=(Dq.1 hw).1;obtain⟨x,x1,x2⟩:=G3.NR i w hw;rw[Ji]at x2;exact⟨x,by rw[G3.lw,G3.hf];exact x1,x2⟩
  .intro i a ha;obtain⟨x,x1,x2⟩:=f2 i a ha;exact⟨x,x1,by rw[hC];exact x2.app⟩
  .intro a p hp;obtain⟨i,n,e1,e2,e3,e4⟩:=o9 a p hp;obtain⟨p1,p2⟩:=G3.VD e1 e3;obtain⟨_,n',_,g2,_,g4,g5⟩:=G3.new i a e1;rw[e3]at g2;cases g2;refine⟨n,e3,by rw[G3.lw,e2];exact p1,by rw[e2];exact p2,.inr ⟨e4,by rw[e2];exact g4,λv hv=>by rw[e2];exact g5 v hv,λj f hf=>?_⟩⟩;obtain⟨x,x1,x2⟩:=G3.Sh i a n j f e1 e3 hf;have gT:=(Dq.1 hf).1;have fD:=SC n;rw[Ji]at x2;exact⟨x,by rw[e2];exact x1,x2⟩
  .intro a a' p p' n n' hp lu hn gw aH;obtain⟨i,m,e1,e2,e3,e4⟩:=o9 a p hp;obtain⟨i',m',oJ,DG,Gg,Gh⟩:=o9 a' p' lu;have EB:i≠i':=λe=>by
    subst e;rw[e1]at oJ;cases oJ;exact aH rfl
   rw[e2,DG];rcases Nat.lt_or_gt_of_ne EB with aj|aj
   .left;rw[<-Pe hn];exact Tv e1 aj
   .right;rw[<-Pe gw];exact Tv oJ aj
 .rw[G3.lw,G3.fr];unfold pos;rw[UY]
 .obtain⟨_,n,_,e2,e3⟩:=G3.cm c hc;exact⟨n,e2,e3⟩
structure Ma where
 h:List Nd
 st:List Wd
 fns:List Nat
 fuel:Nat
 next:Int
 below:Int
def Fits (hf:Nat) (A:Ma) (k:Nat):Prop:=∀C:List Nat,C.Nodup->(∀c∈C,Reach A.h A.st A.fns c)->(C.map (OM A.h)).sum+A.st.length+k<=hf
open Classical in
def val (sl:List Nat):Nd->Prop
 |.num _=>True
 |.data _ _=>True
 |.Jb b fs=>∃n,sl[b]?=some n/\fs.length<n
 |_=>False
theorem zxZ{sl:List Nat}{n:Nd}(h:val sl n):Ks n=false:=by cases n<;>first|rfl|exact h.elim
structure MR (sl:List Nat) (hf:Nat) (m:l0) (A:Ma) (φ:Nat->Option Nat):Prop where
 rel:Rel m.s m.fns A.h A.st A.fns φ
 half:m.s.half=hf
 fuel:m.o.fuel=A.fuel
 next:m.o.next=A.next
 below:m.o.below=A.below
 vi:∀(a b:Nat),A.h[a]?=some (.fwd b)->∃nd,A.h[b]?=some nd/\val sl nd
theorem ztX{st:List Wd}(R:Rel s fc h st fns φ)(hr:Rf φ h x a):∃p n,φ (can h a)=some p/\h[can h a]?=some n/\Ks n=false:=by
 obtain⟨p,rfl,hp⟩:=hr;rcases hp with hp|⟨b,hb,hp⟩
 .obtain⟨n,hn,_,_,aV⟩:=R.N3 a p hp;rcases aV with⟨b,p',rfl,h2,_⟩|⟨h1,_⟩
  .rw[UL hn];obtain⟨nd,g1,g2⟩:=R.fw a b hn;exact⟨p',nd,h2,g1,g2⟩
  .rw[Uy hn h1];exact⟨p,n,hp,hn,h1⟩
 .rw[UL hb];obtain⟨nd,g1,g2⟩:=R.fw a b hb;exact⟨p,nd,hp,g1,g2⟩
theorem zjG{st:List Wd}(R:Rel s fc h st fns φ)(hc:Reach h st fns c):∃p n,φ c=some p/\h[c]?=some n/\Ks n=false:=by
 induction hc with
 |NR hi=>obtain⟨x,_,hr⟩:=R.NR _ _ hi;exact ztX R hr
 |fn ha=>obtain⟨i,hi⟩:=List.mem_iff_getElem?.1 ha;obtain⟨x,_,hr⟩:=R.fn i _ hi;exact ztX R hr
 |Sh _ hn hf ih=>
  obtain⟨p,n',e1,e2,e3⟩:=ih;rw[hn]at e2;cases e2;obtain⟨n',g1,_,_,aV⟩:=R.N3 _ p e1;rw[hn]at g1;cases g1;obtain⟨i,hi⟩:=List.mem_iff_getElem?.1 hf;rcases aV with⟨b,p',h1,_⟩|⟨_,_,_,h4⟩
  .rw[h1]at e3;simp[Ks]at e3
  .obtain⟨x,_,hr⟩:=h4 i _ hi;exact ztX R hr
theorem zlJ{st:List Wd}(R:Rel s fc h st fns φ)(hC:C.Nodup)(hr:∀c∈C,Reach h st fns c):(C.map (OM h)).sum<=s.free-s.low:=by
 have h1:=ztZ s.low s.free (C.map λc=>((φ c).getD 0,OM h c)) (λx hx=>by
  obtain⟨c,hc,rfl⟩:=Ro.1 hx;obtain⟨p,n,e1,e2,_⟩:=zjG R (hr c hc);obtain⟨n',e3,e4,e5,_⟩:=R.N3 c p e1;rw[e2]at e3;cases e3;simp only[e1,Wp,Pe e2];exact⟨e4,e5⟩) (by
  rw[JX];refine List.Pairwise.imp_of_mem (λ{a b}ha hb aH=>?_) hC;obtain⟨p,n,e1,e2,_⟩:=zjG R (hr a ha);obtain⟨p',n',e3,e4,_⟩:=zjG R (hr b hb);simp only[e1,e3,Wp,Pe e2,Pe e4];exact R.Qz a b p p' n n' e1 e3 e2 e4 aH)
 rw[Ke]at h1;exact h1
theorem zvU{sl:List Nat}{hf k:Nat}{m:l0}{A:Ma}(M:MR sl hf m A φ):
  (Fits hf A k/\∃m' φ',m.M8 k=some (.ok m')/\MR sl hf m' A φ'/\m'.s.free+k<=m'.s.top/\m'.o=m.o)\/(¬Fits hf A k/\m.M8 k=some (.error 4)):=by
 have uM:=M.rel.lf;have iY:=M.rel.ft;have fg:=M.rel.tp;have hh:=M.half;unfold l0.M8;by_cases hc:(k:Int)<=(m.s.top:Int)-(m.s.free:Int)
 .rw[nB hc];left;refine⟨λC h1 h2=>?_,m,φ,rfl,M,by omega,rfl⟩;have:=zlJ M.rel h1 h2;omega
 .rw[pL hc];obtain⟨kd,s',C,c1,c2,c3,c4,c5,c6,c7,c8⟩:=zpj M.rel;rw[c1];simp only;have EP:=c2.lf;have Eu:=c2.ft;have Ff:=c2.tp;by_cases hd:(s'.top:Int)-(s'.free:Int)<(k:Int)
  .rw[nB hd];right;refine⟨λaJ=>?_,rfl⟩;have:=aJ C c5 c6;omega
  .rw[pL hd];left;refine⟨λC' h1 h2=>?_,_,OT A.h s'.low C,rfl,⟨c2,by simp only;omega,M.fuel,M.next,M.below,M.vi⟩,by simp only;omega,rfl⟩;have:=zlJ c2 h1 h2;omega
end Ab
end
end Go.Proofs.YtgahgkddaljmkaaGreatDoor
