/- Read6 .. Gc3 -/
import Derived.Test.YtgahgkddaljmkaaGreatDoorT13
import Derived.Test.YtgahgkddaljmkaaGreatDoorT12
set_option maxRecDepth 100000
set_option maxHeartbeats 4000000
namespace Go.Proofs.YtgahgkddaljmkaaGreatDoor
open Tryz
open Go.RowKit
structure Plain (s:ByteArray) (q:List Th.zbr × Th.St) (N:Nat):Prop where
 zct:Good (zay s)
 ne:zay s≠[]
 lines:∃ n k,n<=1000000/\k<=1000000/\Th.zcn (Th.zdJ n) k [] ⟨zay s,none⟩=some q
 within:q.2.bad=none->∃ lo hi,Th.zbM N lo hi q.1/\hi-lo<=100000
def answer (size:Nat) (q:List Th.zbr × Th.St) (N:Nat):Nat × Nat:=
 match q.2.bad with
 |some p=>(2,p)
 |none=>match (Th.zbL N (Th.zaq q.1) [] q.1).head? with
  |some p=>(3,p)
  |none=>if Th.zbl q.1 then (0,0) else (4,size)
def zl2 (s:ByteArray) (q:List Th.zbr × Th.St) (N:Nat) (w:World) (e:Ending) (w':World):Prop:=
 Below w.heap.size w w'/\∃ pv,e=.returned (.tuple #[pv,.int .i64 (answer s.size q N).1,.int .i64 (answer s.size q N).2])/\(∃ a k c,pv=.slice a k c)/\((answer s.size q N).1=0->ziZ (zat w) w' pv q.1)
variable {s:ByteArray}{q:List Th.zbr × Th.St}{N:Nat}
theorem zmH(hs:s.size<=600)(hp:Plain s q N)(w:World):
  Calls prog 33 #[.string s] w fun e w'=>zl2 s q N w e w':=by
 have hz:¬ ((600:Int)<(s.size:Int)):=by omega
 obtain ⟨n,k,hn,hk,hq⟩:=hp.lines;have dn:=zab (zpJ zri s w hs hp.zct hp.ne n k hn hk q hq);have HP:=zab hp;clear hp hq;go_enter func33,ntmps33
 go_wp2_with fail
 refine dn.o.mono ?_;rintro e w1 ⟨hb,hh⟩;have Hb:=zab hb;clear hb dn;rcases hh with ⟨p,aQ,rfl⟩|⟨aQ,pv,rfl,aR⟩
 ·have HB:=zab aQ;clear aQ;go_wp2_with fail
  go_ret3
  refine ⟨Hb.o,.slice none 0 0,?_,⟨_,_,_,rfl⟩,fun h=>?_⟩
  ·simp only[answer,HB.o];rfl
  ·simp only[answer,HB.o]at h;cases h
 ·have HB:=zab aQ;obtain ⟨lo,hi,hin,dq⟩:=HP.o.within aQ;obtain ⟨nvs,bvs,m,h1,h2,af,jY⟩:=aR;obtain ⟨pa,pk,pc,rfl⟩:=zae af;have fE:=zab (zkA af h1 h2 jY hin dq);have lp:q.1.length<=100000:=by have:=zec hin;omega
  have eP:=zab (fun (W:World) (hW:Below w1.heap.size w1 W)=>zpv (af.gb (zaf none hW) (by simp)) h1 h2 (fun i x nv bv a b c=>⟨(jY i x nv bv a b c).1.gb (zaf none hW) (by simp),(jY i x nv bv a b c).2.gb (zaf none hW) (by simp)⟩) lp);have Dm:=zab (fun (W:World) (hW:Below w1.heap.size w1 W)=>(⟨nvs,bvs,m,h1,h2,af.gb (zaf none hW) (by simp),fun i x nv bv a b c=>⟨(jY i x nv bv a b c).1.gb (zaf none hW) (by simp),(jY i x nv bv a b c).2.gb (zaf none hW) (by simp)⟩⟩:ziZ (zat w) W (.slice pa pk pc) q.1));clear aQ hin dq af h1 h2 jY lp;go_wp2_with fail
  refine fE.o.mono ?_;rintro e w2 ⟨rfl,aw⟩;have cO:=zab aw;have jN:=zab (eP.o w2 aw);clear aw fE eP;obtain ⟨hd,kh⟩:∃ hd,(Th.zbL N (Th.zaq q.1) [] q.1).head?=hd:=⟨_,rfl⟩;rw[kh];have ox:=zab kh;clear kh;have yO:Hid (Below w.heap.size w w2):=zab (zbk (zad (zaf none Hb.o) (zaf none cO.o)));cases hd with
  |some p=>
   simp only[zAs,Option.isSome_some];go_wp2_with fail
   go_ret3
   refine ⟨yO.o,.slice none 0 0,?_,⟨_,_,_,rfl⟩,fun h=>?_⟩
   ·simp only[answer,HB.o,ox.o];rfl
   ·simp only[answer,HB.o,ox.o]at h;cases h
  |none=>
   simp only[Option.getD_none,Option.isSome_none];go_wp2_with fail
   refine jN.o.mono ?_;rintro e w3 ⟨rfl,bD⟩;have mw:Hid (Below w.heap.size w w3):=zab (zbk (zad (zaf none yO.o) (zaf none bD)));have Cy:=zab (Dm.o w3 (zbk (zad (zaf none cO.o) (zaf none bD))));clear bD jN;cases hm:Th.zbl q.1
   ·have HM:=zab hm;clear hm;go_wp2_with fail
    go_ret3
    refine ⟨mw.o,.slice none 0 0,?_,⟨_,_,_,rfl⟩,fun h=>?_⟩
    ·simp only[answer,HB.o,ox.o,HM.o];rfl
    ·simp only[answer,HB.o,ox.o,HM.o]at h;cases h
   ·have HM:=zab hm;clear hm;go_wp2_with fail
    go_ret3
    refine ⟨mw.o,.slice pa pk pc,?_,⟨_,_,_,rfl⟩,fun _=>Cy.o⟩;simp only[answer,HB.o,ox.o,HM.o];rfl
end Go.Proofs.YtgahgkddaljmkaaGreatDoor
namespace Go.Proofs.YtgahgkddaljmkaaGreatDoor.Th
open Tryz
def mu (st:St):Nat:=if st.bad.isNone then st.rest.length+1 else 0
theorem zxy(st:St):mu st.fail=0:=by
 unfold mu St.fail;cases h:st.bad <;> simp[h]
theorem ziM(st:St):st.fail.bad≠none:=by
 unfold St.fail;cases h:st.bad <;> simp[h]
variable {st:St}
theorem zdg{s:List UInt8}(h:st.is s=true)(hs:s≠[]):st.bad=none/\∃ t r,st.rest=t::r/\t.s=s:=by
 unfold St.is St.hd at h;simp only[zzv,Option.isNone_iff_eq_none,beq_iff_eq]at h;refine ⟨h.1,?_⟩;cases hr:st.rest with
 |nil=>
  rw[hr]at h;exact absurd h.2.symm hs
 |cons t r=>
  rw[hr]at h;exact ⟨t,r,rfl,h.2⟩
variable {k:Nat}
theorem zeT(h:st.kind k=true)(hk:k≠0):st.bad=none/\∃ t r,st.rest=t::r/\t.k=k:=by
 unfold St.kind St.hd at h;simp only[zzv,Option.isNone_iff_eq_none,beq_iff_eq]at h;refine ⟨h.1,?_⟩;cases hr:st.rest with
 |nil=>
  rw[hr]at h;exact absurd h.2.symm hk
 |cons t r=>
  rw[hr]at h;exact ⟨t,r,rfl,h.2⟩
variable {lo M:Nat}{l:List Tok}
theorem zcx.down{dL:Nat}(h:zcx lo M l)(hl:dL<=lo):zcx dL M l:=by
 cases l with
 |nil=>exact zyR hl h
 |cons t r=>exact ⟨zyR hl h.1,h.2⟩
theorem zcx.tail{t:Tok}(h:zcx lo M (t::l)):zcx (lo+1) M l:=h.2.down (by have:=h.1;omega)
structure Step (d:Nat) (st st':St):Prop where
 mu:mu st'+d<=mu st\/Th.mu st'=0
 bad:st'.bad=none->st.bad=none
 zni:∀ lo M,zcx lo M st.rest->st'.bad=none->zcx (lo+d) M st'.rest
variable {d:Nat}{b:St}
theorem Step.le{a:St}(h:Step d a b):Th.mu b<=Th.mu a:=by
 rcases h.mu with h|h <;> omega
variable {d':Nat}{c:St}
theorem Step.trans{a:St}(h:Step d a b)(k:Step d' b c):Step (d+d') a c:=by
 refine ⟨?_,fun hc=>h.bad (k.bad hc),fun lo M hr hc=>?_⟩
 ·rcases h.mu with h1|h1 <;> rcases k.mu with k1|k1
  ·exact .inl (by omega)
  ·exact .inr k1
  ·exact .inr (by omega)
  ·exact .inr k1
 ·have:=k.zni (lo+d) M (h.zni lo M hr (k.bad hc)) hc;rw[Nat.add_assoc]at this;exact this
theorem Step.zkl{a:St}(h:Step d a b)(hd:d'<=d):Step d' a b:=
 ⟨by rcases h.mu with h|h;exact .inl (by omega);exact .inr h,h.bad,fun lo M hr hc=>(h.zni lo M hr hc).down (by omega)⟩
theorem Step.refl(st:St):Step 0 st st:=⟨.inl (zyN _),id,fun _ _ h _=>h⟩
theorem zhb(d:Nat)(st:St):Step d st st.fail:=⟨.inr (zxy st),fun h=>absurd h (ziM st),fun _ _ _ h=>absurd h (ziM st)⟩
theorem zqV{t:Tok}{r:List Tok}(hb:st.bad=none)(hr:st.rest=t::r):Step 1 st st.adv:=by
 refine ⟨.inl ?_,fun _=>hb,fun lo M h _=>?_⟩
 ·simp[Th.mu,St.adv,hb,hr]
 ·rw[hr]at h;simp only[St.adv,hr,List.tail_cons];exact h.tail
theorem zcC{s:List UInt8}(h:st.is s=true)(hs:s≠[]):Step 1 st st.adv:=by
 obtain ⟨hb,t,r,hr,_⟩:=zdg h hs;exact zqV hb hr
theorem zhc(h:st.kind k=true)(hk:k≠0):Step 1 st st.adv:=by
 obtain ⟨hb,t,r,hr,_⟩:=zeT h hk;exact zqV hb hr
theorem zbE{s:List UInt8}(hs:s≠[])(st:St):Step 1 st (want s st):=by
 unfold want;split
 ·rename_i h;exact zcC h hs
 ·exact zhb _ _
theorem zhX(st:St):Step 1 st (zaL st).2:=by
 unfold zaL;split
 ·rename_i h;exact zhc h (by decide)
 ·exact zhb _ _
theorem ze0(a b:Nat)(st:St):Step 1 st (zaB a b st).2:=by
 unfold zaB;split
 ·rename_i h;simp only[zzv]at h;exact zhc h.1.1 (by decide)
 ·exact zhb _ _
theorem zmF(h:zcx lo M st.rest)(hb:(zaL st).2.bad=none):lo<=(zaL st).1.at_/\zcx ((zaL st).1.at_+1) M (zaL st).2.rest:=by
 unfold zaL at hb ⊢;split at hb
 ·rename_i hk;rw[if_pos hk];obtain ⟨_,t,r,hr,_⟩:=zeT hk (by decide);rw[hr]at h;simp only[St.hd,St.adv,hr,List.headD_cons,List.tail_cons];exact h
 ·exact absurd hb (ziM st)
theorem zgc(p:Tok->Bool):∀ {lo M:Nat} {l:List Tok},zcx lo M l->∃ m,zcx lo m (l.takeWhile p)/\zcx m M (l.dropWhile p)
 |lo,M,[],h=>⟨lo,zyN lo,h⟩
 |lo,M,t::l,h=>by
  by_cases ht:p t=true
  ·obtain ⟨m,h1,h2⟩:=zgc p h.2;simp only[List.takeWhile_cons,List.dropWhile_cons,ht,if_true];exact ⟨m,⟨h.1,h1⟩,h2⟩
  ·simp only[List.takeWhile_cons,List.dropWhile_cons,ht];exact ⟨lo,zyN lo,h⟩
theorem zg8(h:zcx lo M st.rest)(hb:(zax st).2.bad=none):∃ m,zcx lo m (zax st).1/\zcx m M (zax st).2.rest:=by
 unfold zax at hb ⊢;split at hb
 ·rename_i hk;rw[if_pos hk];exact zgc _ h
 ·rename_i hk;rw[hb]at hk;simp at hk
theorem zgu(st:St):Step 0 st (zax st).2:=by
 refine ⟨.inl ?_,?_,fun lo M h hb=>?_⟩
 ·unfold zax;split
  ·rename_i hk;simp only[Th.mu,hk,if_true,Option.isNone_none];have:=(List.dropWhile_sublist (l:=st.rest) (fun t:Tok=>t.k == 2)).length_le;omega
  ·exact zyN _
 ·unfold zax;split
  ·rename_i hk;intro _;simpa using hk
  ·exact id
 ·obtain ⟨m,h1,h2⟩:=zg8 h hb;exact h2.down (by have:=h1.len;omega)
theorem zbd.imp{P Q:Ex->Nat->Nat->Prop}(h:∀ e lo hi,P e lo hi->Q e lo hi):∀ {lo hi:Nat} {l:List Tok} {es:List Ex},zbd P lo hi l es->zbd Q lo hi l es
 |_,_,[],[],k=>k
 |_,_,_::_,_::_,⟨k1,m,k2,k3⟩=>⟨k1,m,h _ _ _ k2,zbd.imp h k3⟩
 |_,_,[],_::_,k=>k.elim
 |_,_,_::_,[],k=>k.elim
theorem zcb.imp{P Q:Ex->Nat->Nat->Prop}(h:∀ e lo hi,P e lo hi->Q e lo hi):∀ {lo hi:Nat} {l:List (Nat × List Tok)} {es:List Ex},zcb P lo hi l es->zcb Q lo hi l es
 |_,_,[],[],k=>k
 |_,_,_::_,_::_,⟨m1,m2,k1,k2,k3⟩=>⟨m1,m2,k1,h _ _ _ k2,zcb.imp h k3⟩
 |_,_,[],_::_,k=>k.elim
 |_,_,_::_,[],k=>k.elim
theorem In.succ:∀ (n:Nat) (e:Ex) (lo hi:Nat),In n e lo hi->In (n+1) e lo hi
 |0,_,_,_,h=>h.elim
 |n+1,e,lo,hi,h=>by
  have ih:=In.succ n;refine ⟨h.1,?_⟩;rcases h.2 with h|h|⟨hk,b,m,h1,h2,h3⟩|⟨hk,e1,e2,m,h1,h2,h3⟩|⟨hk,b,ps,m,h1,h2,h3⟩|⟨hk,b,bs,m,h1,h2,h3⟩
  ·exact .inl h
  ·exact .inr (.inl h)
  ·exact .inr (.inr (.inl ⟨hk,b,m,h1,h2,ih _ _ _ h3⟩))
  ·exact .inr (.inr (.inr (.inl ⟨hk,e1,e2,m,h1,ih _ _ _ h2,ih _ _ _ h3⟩)))
  ·exact .inr (.inr (.inr (.inr (.inl ⟨hk,b,ps,m,h1,h2.imp ih,ih _ _ _ h3⟩))))
  ·exact .inr (.inr (.inr (.inr (.inr ⟨hk,b,bs,m,h1,ih _ _ _ h2,h3.imp ih⟩))))
variable {n m:Nat}{e:Ex}
theorem In.mono{hi:Nat}(h:In n e lo hi)(hm:n<=m):In m e lo hi:=by
 induction hm with
 |refl=>exact h
 |step _ ih=>exact In.succ _ _ _ _ ih
variable {P:Ex->Nat->Nat->Prop}
theorem zbd.down{dL hi:Nat}{es:List Ex}(h:zbd P lo hi l es)(hl:dL<=lo):zbd P dL hi l es:=by
 cases l <;> cases es
 ·exact zyR hl h
 ·exact h.elim
 ·exact h.elim
 ·exact ⟨zyR hl h.1,h.2⟩
theorem In.down:∀ {n:Nat} {e:Ex} {lo dL hi:Nat},In n e lo hi->dL<=lo->In n e dL hi
 |0,_,_,_,_,h,_=>h.elim
 |n+1,e,lo,dL,hi,h,hl=>by
  refine ⟨zyR hl h.1,?_⟩;rcases h.2 with h|h|⟨hk,b,m,h1,h2,h3⟩|⟨hk,e1,e2,m,h1,h2,h3⟩|⟨hk,b,ps,m,h1,h2,h3⟩|⟨hk,b,bs,m,h1,h2,h3⟩
  ·exact .inl h
  ·exact .inr (.inl ⟨h.1,zyR hl h.2.1,h.2.2⟩)
  ·exact .inr (.inr (.inl ⟨hk,b,m,h1,h2.down hl,h3⟩))
  ·exact .inr (.inr (.inr (.inl ⟨hk,e1,e2,m,h1,h2.down hl,h3⟩)))
  ·exact .inr (.inr (.inr (.inr (.inl ⟨hk,b,ps,m,h1,h2.down hl,h3⟩))))
  ·exact .inr (.inr (.inr (.inr (.inr ⟨hk,b,bs,m,h1,h2.down hl,h3⟩))))
structure zd9 (d:Nat) (st:St) (e:Ex) (st':St):Prop where
 step:Step d st st'
 inn:∀ lo M,zcx lo M st.rest->st'.bad=none->∃ N hi,In N e lo hi/\zcx hi M st'.rest
theorem zd9.zkl{d d':Nat}{st st':St}{e:Ex}(h:zd9 d st e st')(hd:d'<=d):zd9 d' st e st':=⟨h.step.zkl hd,h.inn⟩
theorem zd9.pre{a:St}(h:Step d a b)(k:zd9 d' b e c):zd9 (d+d') a e c:=
 ⟨h.trans k.step,fun lo M hr hc=>by
  obtain ⟨N,hi,h1,h2⟩:=k.inn _ M (h.zni lo M hr (k.step.bad hc)) hc;exact ⟨N,hi,h1.down (by omega),h2⟩⟩
theorem zd9.post{a:St}(h:zd9 d a e b)(k:Step d' b c):zd9 (d+d') a e c:=
 ⟨h.step.trans k,fun lo M hr hc=>by
  obtain ⟨N,hi,h1,h2⟩:=h.inn lo M hr (k.bad hc);exact ⟨N,hi,h1,(k.zni _ M h2 hc).down (by omega)⟩⟩
theorem zd9.fail(d:Nat)(st:St)(e:Ex):zd9 d st e st.fail:=⟨zhb d st,fun _ _ _ h=>absurd h (ziM st)⟩
theorem znQ{st':St}(h:Step d st st')(hk:e.kind=1\/e.kind=3):zd9 d st e st':=
 ⟨h,fun lo M hr hc=>⟨1,lo,⟨zyN _,.inl hk⟩,(h.zni lo M hr hc).down (by omega)⟩⟩
theorem zml{a:St}{e1 e2:Ex}(hk:e.kind=5\/e.kind=6)(he:e.kids=[e1,e2])(h:zd9 d a e1 b)(k:zd9 d' b e2 c):zd9 (d+d') a e c:=
 ⟨h.step.trans k.step,fun lo M hr hc=>by
  obtain ⟨N1,m,h1,h2⟩:=h.inn lo M hr (k.step.bad hc);obtain ⟨N2,hi,k1,k2⟩:=k.inn m M h2 hc;exact ⟨max N1 N2+1,hi,⟨zyR h1.le k1.le,.inr (.inr (.inr (.inl ⟨hk,e1,e2,m,he,h1.mono (by omega),k1.mono (by omega)⟩)))⟩,k2⟩⟩
theorem zrt(st:St):zd9 1 st (zdj st).1 (zdj st).2:=
 znQ ((((ze0 1 99 st).trans (zbE (s:=[44]) (by simp) _)).trans (ze0 0 9 _)).trans (zbE (s:=[125]) (by simp) _)|>.zkl (by omega)) (.inr rfl)
theorem zs6(h:st.kind 2=true):zd9 1 st (zbW st.hd) st.adv:=by
 refine ⟨zhc h (by decide),fun lo M hr _=>?_⟩;obtain ⟨_,t,r,ju,_⟩:=zeT h (by decide);rw[ju]at hr;simp only[St.hd,St.adv,ju,List.headD_cons,List.tail_cons];exact ⟨1,t.at_+1,⟨by have:=hr.1;omega,.inr (.inl ⟨rfl,hr.1,by simp[zbW]⟩)⟩,hr.2⟩
def zpb (n:Nat) (ex:Rd):Prop:=∀ c st,mu st+1<n->∃ r,ex c st=some r/\zd9 0 st r.1 r.2
variable {ex:Rd}
theorem zqN(hx:zpb n ex)(h:mu st<n):∃ r,zeU ex st=some r/\zd9 1 st r.1 r.2:=by
 unfold zeU;split
 ·rename_i hk;exact ⟨_,rfl,zs6 hk⟩
 split
 ·rename_i hk;exact ⟨_,rfl,znQ (zhc hk (by decide)) (.inl rfl)⟩
 split
 ·rename_i hk;exact ⟨_,rfl,(zd9.pre (zcC hk (by simp)) (zrt _)).zkl (by omega)⟩
 split
 ·rename_i hk;have hs:=zcC hk (by simp);have hb:=(zdg hk (by simp)).1;obtain ⟨r,h1,h2⟩:=hx false st.adv (by
   have h3:mu st.adv+1<=mu st:=by
    rcases hs.mu with h3|h3
    ·exact h3
    ·have:mu st≠0:=by simp[mu,hb]
     omega
   omega)
  rw[h1];exact ⟨_,rfl,((zd9.pre hs h2).post (zbE (s:=[41]) (by simp) _)).zkl (by omega)⟩
 ·exact ⟨_,rfl,zd9.fail _ _ _⟩
theorem zhF(h:zcI st=true):st.bad=none:=by
 unfold zcI at h;simp only[zAy]at h;rcases h with ((h|h)|h)|h
 ·exact (zeT h (by decide)).1
 ·exact (zeT h (by decide)).1
 ·exact (zdg h (by simp)).1
 ·exact (zdg h (by simp)).1
theorem ztD(h:st.bad=none):0<mu st:=by simp[mu,h]
theorem zlG(h:Step 1 st st.adv)(hb:st.bad=none):mu st.adv+1<=mu st:=by
 have:=ztD hb;rcases h.mu with h|h <;> omega
theorem zn7{n:Nat}{ex:Rd}(hx:zpb n ex):∀ (k:Nat) (e:Ex) (eO st:St),zd9 0 eO e st->mu st<k->mu st<n->∃ r,zcV ex k e st=some r/\zd9 0 eO r.1 r.2
 |0,_,_,_,_,h,_=>absurd h (zAd _)
 |k+1,e,eO,st,hf,hk,hn=>by
  unfold zcV;split
  ·rename_i hb;have bp:=ztD (zhF hb);obtain ⟨r,h1,h2⟩:=zqN hx hn;rw[h1];exact zn7 hx k (zch e r.1) eO r.2 ((zml (.inl rfl) rfl hf h2).zkl (by omega)) (by rcases h2.step.mu with h|h <;> omega) (by have:=h2.step.le;omega)
  ·exact ⟨_,rfl,hf⟩
theorem zqO(hx:zpb n ex)(hk:mu st<k)(hn:mu st<n):∃ r,zhP ex k st=some r/\zd9 0 st r.1 r.2:=by
 unfold zhP;obtain ⟨r,h1,h2⟩:=zqN hx hn;rw[h1];have:=h2.step.le;exact zn7 hx k r.1 st r.2 (h2.zkl (by omega)) (by omega) (by omega)
theorem zpI{n:Nat}{sub:St->Option (Ex × St)}(hs:∀ st,mu st<n->∃ r,sub st=some r/\zd9 0 st r.1 r.2){a b:List UInt8}(ha:a≠[])(hb:b≠[]):∀ (k:Nat) (e:Ex) (eO st:St),zd9 0 eO e st->mu st<k->mu st<n->∃ r,zku sub a b k e st=some r/\zd9 0 eO r.1 r.2
 |0,_,_,_,_,h,_=>absurd h (zAd _)
 |k+1,e,eO,st,hf,hk,hn=>by
  unfold zku;split
  ·rename_i hc;simp only[zAy]at hc;have h1:Step 1 st st.adv:=by
    rcases hc with h|h
    ·exact zcC h ha
    ·exact zcC h hb
   have h0:st.bad=none:=by
    rcases hc with h|h
    ·exact (zdg h ha).1
    ·exact (zdg h hb).1
   have hm:=zlG h1 h0;obtain ⟨r,h2,h3⟩:=hs st.adv (by omega);rw[h2];have:=h3.step.le;exact zpI hs ha hb k (ziR st.hd e r.1) eO r.2 ((zml (.inr rfl) rfl hf (zd9.pre h1 h3)).zkl (by omega)) (by omega) (by omega)
  ·exact ⟨_,rfl,hf⟩
theorem zjC(hx:zpb n ex)(hn:mu st<n):∃ r,zcG ex n st=some r/\zd9 0 st r.1 r.2:=by
 unfold zcG;obtain ⟨r,h1,h2⟩:=zqO hx hn hn;rw[h1];have:=h2.step.le;exact zpI (fun st h=>zqO hx h h) (by simp) (by simp) n r.1 st r.2 h2 (by omega) (by omega)
theorem ztS(hx:zpb n ex)(hn:mu st<n):∃ r,zu0 ex n st=some r/\zd9 0 st r.1 r.2:=by
 unfold zu0;obtain ⟨r,h1,h2⟩:=zjC hx hn;rw[h1];have:=h2.step.le;exact zpI (fun st h=>zjC hx h) (by simp) (by simp) n r.1 st r.2 h2 (by omega) (by omega)
theorem zv1(hx:zpb n ex)(hn:mu st<n):∃ r,zjD ex n st=some r/\zd9 0 st r.1 r.2:=by
 unfold zjD;obtain ⟨r,h1,h2⟩:=ztS hx hn;rw[h1];have hle:=h2.step.le;simp only[zzD];split
 ·rename_i hc;simp only[zAy]at hc;have h3:Step 1 r.2 r.2.adv:=by
   rcases hc with h|h
   ·exact zcC h (by simp)
   ·exact zcC h (by simp)
  have:=h3.le;obtain ⟨q,h4,h5⟩:=ztS hx (st:=r.2.adv) (by omega);rw[h4];exact ⟨_,rfl,(zml (.inr rfl) rfl h2 (zd9.pre h3 h5)).zkl (by omega)⟩
 ·exact ⟨_,rfl,h2⟩
theorem zbd.snoc{P:Ex->Nat->Nat->Prop}:∀ {lo m hi:Nat} {l:List Tok} {es:List Ex} {t:Tok} {e:Ex},zbd P lo m l es->m<=t.at_->P e (t.at_+1) hi->zbd P lo hi (l++[t]) (es++[e])
 |_lo,_m,hi,[],[],_t,_e,h,hm,he=>⟨zyR h hm,hi,he,zyN _⟩
 |_lo,_m,_hi,_::_,_::_,_t,_e,⟨h1,m1,h2,h3⟩,hm,he=>⟨h1,m1,h2,zbd.snoc h3 hm he⟩
 |_,_,_,[],_::_,_,_,h,_,_=>h.elim
 |_,_,_,_::_,[],_,_,h,_,_=>h.elim
theorem zcb.snoc{P:Ex->Nat->Nat->Prop}:∀ {lo m m1 hi:Nat} {l:List (Nat × List Tok)} {es:List Ex} {a:Nat × List Tok} {e:Ex},zcb P lo m l es->zcx (m+1) m1 a.2->P e m1 hi->zcb P lo hi (l++[a]) (es++[e])
 |lo,m,m1,hi,[],[],a,e,h,hm,he=>⟨m1,hi,hm.down (by have h':lo<=m:=h;omega),he,zyN _⟩
 |lo,m,m1,hi,_::_,_::_,a,e,⟨x,y,h1,h2,h3⟩,hm,he=>⟨x,y,h1,h2,zcb.snoc h3 hm he⟩
 |_,_,_,_,[],_::_,_,_,h,_,_=>h.elim
 |_,_,_,_,_::_,[],_,_,h,_,_=>h.elim
structure zu2 (st:St) (l:List Tok) (es:List Ex) (st':St):Prop where
 step:Step 0 st st'
 inn:∀ lo M,zcx lo M st.rest->st'.bad=none->∃ N m,zbd (In N) lo m l es/\zcx m M st'.rest
theorem zn6{n:Nat}{ex:Rd}(hx:zpb n ex):∀ (k:Nat) (l:List Tok) (es:List Ex) (eO st:St),zu2 eO l es st->mu st<k->mu st+1<n->∃ r,zcu ex k l es st=some r/\zu2 eO r.1 r.2.1 r.2.2
 |0,_,_,_,_,_,h,_=>absurd h (zAd _)
 |k+1,l,es,eO,st,hf,hk,hn=>by
  unfold zcu;have s1:=zhX st;have s2:=zbE (s:=[61]) (by simp) (zaL st).2;have l1:=s1.le;have l2:=s2.le;obtain ⟨r,h1,h2⟩:=hx true (want [61] (zaL st).2) (by omega);have l3:=h2.step.le;have hB:zu2 eO (l++[(zaL st).1]) (es++[r.1]) r.2:=by
   refine ⟨((hf.step.trans s1).trans (s2.trans h2.step)).zkl (by omega),fun lo M hr hb=>?_⟩;have b2:=h2.step.bad hb;have b1:=s2.bad b2;obtain ⟨N,m,i1,i2⟩:=hf.inn lo M hr (s1.bad b1);obtain ⟨j1,j2⟩:=zmF i2 b1;obtain ⟨N2,hi,k1,k2⟩:=h2.inn _ M (s2.zni _ M j2 b2) hb;exact ⟨max N N2,hi,(i1.imp (fun e a b h=>h.mono (zAB _ _))).snoc j1 ((k1.mono (zAr _ _)).down (by omega)),k2⟩
  simp only[h1,zzD];split
  ·rename_i hc;have s3:=zcC hc (by simp);have m3:=zlG s3 (zdg hc (by simp)).1;exact zn6 hx k _ _ eO r.2.adv ⟨(hB.step.trans s3).zkl (by omega),fun lo M hr hb=>by
    obtain ⟨N,m,i1,i2⟩:=hB.inn lo M hr (s3.bad hb);exact ⟨N,m,i1,(s3.zni _ M i2 hb).down (by omega)⟩⟩ (by omega) (by omega)
  ·exact ⟨_,rfl,hB⟩
theorem zs5(st:St):zu2 st [] [] st:=⟨Step.refl st,fun lo _M hr _=>⟨0,lo,zyN _,hr⟩⟩
theorem zxE(hx:zpb n ex)(outer:Bool)(hn:mu st+1<n):∃ r,ztQ ex n outer st=some r/\zd9 0 st r.1 r.2:=by
 unfold ztQ;have hs:Step 0 st (if st.is zo8 then st.adv else st):=by
  split
  ·rename_i h;exact (zcC h (by simp[zo8])).zkl (by omega)
  ·exact Step.refl st
 have hl:=hs.le;obtain ⟨r,h1,h2⟩:=zn6 hx n [] [] (if st.is zo8 then st.adv else st) (if st.is zo8 then st.adv else st) (zs5 _) (by omega) (by omega);have s3:=zbE (s:=sIn) (by simp[sIn]) r.2.2;have l2:=h2.step.le;have l3:=s3.le;obtain ⟨q,h4,h5⟩:=hx outer (want sIn r.2.2) (by omega);simp only[h1,h4,zzD];refine ⟨_,rfl,((hs.trans h2.step).trans (s3.trans h5.step)).zkl (by omega),fun lo M hr hb=>?_⟩;have b5:=h5.step.bad hb;have b3:=s3.bad b5;obtain ⟨N,m,i1,i2⟩:=h2.inn lo M ((hs.zni lo M hr (h2.step.bad b3)).down (by omega)) b3;obtain ⟨N2,hi,k1,k2⟩:=h5.inn _ M (s3.zni _ M i2 b5) hb;refine ⟨max N N2+1,hi,⟨?_,.inr (.inr (.inr (.inr (.inl ⟨?_,q.1,r.2.1,m,rfl,i1.imp (fun e a b h=>h.mono (zAB _ _)),(k1.mono (zAr _ _)).down (by omega)⟩))))⟩,k2⟩
 ·have:=i1.len;have:=k1.le;omega
 ·show (if _ then 8 else 7)=7\/(if _ then 8 else 7)=8;split
  ·exact .inr rfl
  ·exact .inl rfl
structure zu1 (st:St) (l:List (Nat × List Tok)) (es:List Ex) (st':St):Prop where
 step:Step 0 st st'
 inn:∀ lo M,zcx lo M st.rest->st'.bad=none->∃ N m,zcb (In N) lo m l es/\zcx m M st'.rest
theorem zxC(hx:zpb n ex)(outer:Bool)(hn:mu st+1<n):
  ∃ r,ztN ex outer st=some r/\Step 0 st r.2.2/\∀ lo M,zcx lo M st.rest->r.2.2.bad=none->∃ N m hi,zcx (lo+1) m r.1.2/\In N r.2.1 m hi/\zcx hi M r.2.2.rest:=by
 unfold ztN;have s1:=zbE (s:=[60]) (by simp) st;have s2:=ze0 1 99 (want [60] st);have s3:=zbE (s:=[62]) (by simp) (zaB 1 99 (want [60] st)).2;have pz:=(s1.trans s2).trans s3;have s4:=zgu (want [62] (zaB 1 99 (want [60] st)).2);have s5:=zbE (s:=[45,62]) (by simp) (zax (want [62] (zaB 1 99 (want [60] st)).2)).2;have l1:=pz.le;have l4:=s4.le;have l5:=s5.le;obtain ⟨r,h1,h2⟩:=hx outer (want [45,62] (zax (want [62] (zaB 1 99 (want [60] st)).2)).2) (by omega);simp only[h1,zzD];refine ⟨_,rfl,((pz.trans s4).trans (s5.trans h2.step)).zkl (by omega),fun lo M hr hb=>?_⟩;have b5:=h2.step.bad hb;have b4:=s5.bad b5;obtain ⟨m,i1,i2⟩:=zg8 (pz.zni lo M hr (s4.bad b4)) b4;obtain ⟨N,hi,k1,k2⟩:=h2.inn _ M (s5.zni _ M i2 b5) hb;exact ⟨N,m,hi,i1.down (by omega),k1.down (by omega),k2⟩
theorem zqL{n:Nat}{ex:Rd}(hx:zpb n ex)(outer:Bool):∀ (k:Nat) (l:List (Nat × List Tok)) (es:List Ex) (eO st:St),zu1 eO l es st->mu st<k->mu st+1<n->∃ r,zeD ex outer k l es st=some r/\zu1 eO r.1 r.2.1 r.2.2
 |0,_,_,_,_,_,h,_=>absurd h (zAd _)
 |k+1,l,es,eO,st,hf,hk,hn=>by
  unfold zeD;obtain ⟨r,h1,h2,h3⟩:=zxC hx outer hn;have l2:=h2.le;have hA:zu1 eO (l++[r.1]) (es++[r.2.1]) r.2.2:=by
   refine ⟨(hf.step.trans h2).zkl (by omega),fun lo M hr hb=>?_⟩;obtain ⟨N,m,i1,i2⟩:=hf.inn lo M hr (h2.bad hb);obtain ⟨N2,m1,hi,j1,j2,j3⟩:=h3 m M i2 hb;exact ⟨max N N2,hi,(i1.imp (fun e a b h=>h.mono (zAB _ _))).snoc j1 (j2.mono (zAr _ _)),j3⟩
  simp only[h1,zzD];split
  ·rename_i hc;unfold za8 at hc;simp only[zzv]at hc;have s3:=zcC hc.1 (by simp);have m3:=zlG s3 (zdg hc.1 (by simp)).1;exact zqL hx outer k _ _ eO r.2.2.adv ⟨(hA.step.trans s3).zkl (by omega),fun lo M hr hb=>by
    obtain ⟨N,m,i1,i2⟩:=hA.inn lo M hr (s3.bad hb);exact ⟨N,m,i1,(s3.zni _ M i2 hb).down (by omega)⟩⟩ (by omega) (by omega)
  ·exact ⟨_,rfl,hA⟩
theorem zs4(st:St):zu1 st [] [] st:=⟨Step.refl st,fun lo _M hr _=>⟨0,lo,zyN _,hr⟩⟩
theorem zvY(hx:zpb n ex)(outer:Bool)(hn:mu st+1<n):∃ r,zjy ex n outer st=some r/\zd9 0 st r.1 r.2:=by
 unfold zjy;obtain ⟨r,h1,h2⟩:=hx false st hn;have s3:=zbE (s:=sOf) (by simp[sOf]) r.2;have l2:=h2.step.le;have l3:=s3.le;obtain ⟨q,h4,h5⟩:=zqL hx outer n [] [] (want sOf r.2) (want sOf r.2) (zs4 _) (by omega) (by omega);simp only[h1,h4,zzD];refine ⟨_,rfl,(h2.step.trans (s3.trans h5.step)).zkl (by omega),fun lo M hr hb=>?_⟩;have b5:=h5.step.bad hb;obtain ⟨N,m,i1,i2⟩:=h2.inn lo M hr (s3.bad b5);obtain ⟨N2,hi,k1,k2⟩:=h5.inn m M ((s3.zni _ M i2 b5).down (by omega)) hb;refine ⟨max N N2+1,hi,⟨?_,.inr (.inr (.inr (.inr (.inr ⟨rfl,r.1,q.2.1,m,rfl,i1.mono (zAB _ _),k1.imp (fun e a b h=>h.mono (zAr _ _))⟩))))⟩,k2⟩;have:=i1.le;have:=k1.len;omega
theorem zxD(hx:zpb n ex)(outer:Bool)(hn:mu st+1<n):∃ r,ztO ex outer st=some r/\zd9 0 st r.1 r.2:=by
 unfold ztO;have s1:=zhX st;have s2:=zgu (zaL st).2;have s3:=zbE (s:=[46]) (by simp) (zax (zaL st).2).2;have l1:=s1.le;have l2:=s2.le;have l3:=s3.le;obtain ⟨r,h1,h2⟩:=hx outer (want [46] (zax (zaL st).2).2) (by omega);simp only[h1,zzD];refine ⟨_,rfl,((s1.trans s2).trans (s3.trans h2.step)).zkl (by omega),fun lo M hr hb=>?_⟩;have b3:=h2.step.bad hb;have b2:=s3.bad b3;have b1:=s2.bad b2;obtain ⟨i1,i2⟩:=zmF hr b1;obtain ⟨m,j1,j2⟩:=zg8 i2 b2;obtain ⟨N,hi,k1,k2⟩:=h2.inn _ M (s3.zni _ M j2 b3) hb;refine ⟨N+1,hi,⟨?_,.inr (.inr (.inl ⟨rfl,r.1,m,rfl,⟨i1,j1⟩,k1.down (by omega)⟩))⟩,k2⟩;have:=j1.len;have:=k1.le;omega
theorem zmC:∀ (n:Nat),zpb n (zdJ n)
 |0=>fun _ _ h=>absurd h (zAd _)
 |n+1=>fun outer st h=>by
  have hx:=zmC n;have hn:mu st<n:=by omega
  show ∃ r,zg7 (zdJ n) n outer st=some r/\zd9 0 st r.1 r.2;unfold zg7;split
  ·rename_i hc;have s:=zcC hc (by simp[zqP]);have:=zlG s (zdg hc (by simp[zqP])).1;obtain ⟨r,h1,h2⟩:=zxE hx outer (st:=st.adv) (by omega);exact ⟨r,h1,(zd9.pre s h2).zkl (by omega)⟩
  split
  ·rename_i hc;have s:=zcC hc (by simp[zjO]);have:=zlG s (zdg hc (by simp[zjO])).1;obtain ⟨r,h1,h2⟩:=zvY hx outer (st:=st.adv) (by omega);exact ⟨r,h1,(zd9.pre s h2).zkl (by omega)⟩
  split
  ·rename_i hc;have s:=zcC hc (by simp);have:=zlG s (zdg hc (by simp)).1;obtain ⟨r,h1,h2⟩:=zxD hx outer (st:=st.adv) (by omega);exact ⟨r,h1,(zd9.pre s h2).zkl (by omega)⟩
  ·exact zv1 hx hn
end Go.Proofs.YtgahgkddaljmkaaGreatDoor.Th
namespace Go.Proofs.YtgahgkddaljmkaaGreatDoor
open Tryz
namespace Th
theorem zbM.mono{n m:Nat}(hm:n<=m):∀ {lo hi:Nat} {l:List zbr},zbM n lo hi l->zbM m lo hi l
 |_,_,[],h=>h
 |_,_,_::_,⟨h0,m1,m2,h1,h2,h3⟩=>⟨h0,m1,m2,h1,h2.mono hm,zbM.mono hm h3⟩
theorem zbM.snoc{n:Nat}:∀ {lo m m1 hi:Nat} {l:List zbr} {x:zbr},zbM n lo m l->m<=x.name.at_->zcx (x.name.at_+1) m1 x.params->In n x.e m1 hi->zbM n lo hi (l++[x])
 |_lo,_m,m1,hi,[],_x,h,hm,h1,h2=>⟨zyR h hm,m1,hi,h1,h2,zyN _⟩
 |_lo,_m,_m1,_hi,_::_,_x,⟨h0,a,b,k1,k2,k3⟩,hm,h1,h2=>⟨h0,a,b,k1,k2,zbM.snoc k3 hm h1 h2⟩
structure zyd (st:St) (l:List zbr) (st':St):Prop where
 step:Step 0 st st'
 inn:∀ lo M,zcx lo M st.rest->st'.bad=none->∃ N m,zbM N lo m l/\zcx m M st'.rest
variable {n:Nat}{ex:Rd}{st:St}
theorem zv0(hx:zpb n ex)(hn:mu st+1<n):
  ∃ r,zmE ex st=some r/\Step 1 st r.2/\∀ lo M,zcx lo M st.rest->r.2.bad=none->lo<=r.1.name.at_/\∃ N m hi,zcx (r.1.name.at_+1) m r.1.params/\In N r.1.e m hi/\zcx hi M r.2.rest:=by
 unfold zmE;have s1:=zhX st;have s2:=zgu (zaL st).2;have s3:=zbE (s:=[61]) (by simp) (zax (zaL st).2).2;have l1:=s1.le;have l2:=s2.le;have l3:=s3.le;obtain ⟨r,h1,h2⟩:=hx true (want [61] (zax (zaL st).2).2) (by omega);have s4:=zbE (s:=[59]) (by simp) r.2;simp only[h1,zzD];refine ⟨_,rfl,((s1.trans s2).trans ((s3.trans h2.step).trans s4)).zkl (by omega),fun lo M hr hb=>?_⟩;have b4:=s4.bad hb;have b3:=h2.step.bad b4;have b2:=s3.bad b3;have b1:=s2.bad b2;obtain ⟨i1,i2⟩:=zmF hr b1;obtain ⟨m,j1,j2⟩:=zg8 i2 b2;obtain ⟨N,hi,k1,k2⟩:=h2.inn _ M (s3.zni _ M j2 b3) b4;exact ⟨i1,N,m,hi,j1,k1.down (by omega),(s4.zni _ M k2 hb).down (by omega)⟩
theorem zjA{n:Nat}{ex:Rd}(hx:zpb n ex):∀ (k:Nat) (l:List zbr) (eO st:St),zyd eO l st->mu st<k->mu st+1<n->∃ r,zcn ex k l st=some r/\zyd eO r.1 r.2
 |0,_,_,_,_,h,_=>absurd h (zAd _)
 |k+1,l,eO,st,hf,hk,hn=>by
  unfold zcn;split
  ·rename_i hc;simp only[zzv,Option.isNone_iff_eq_none]at hc;have bp:=ztD hc.1;obtain ⟨r,h1,h2,h3⟩:=zv0 hx hn;have l2:=h2.le;simp only[h1,zzD];refine zjA hx k (l++[r.1]) eO r.2 ⟨(hf.step.trans h2).zkl (by omega),fun lo M hr hb=>?_⟩ (by rcases h2.mu with h|h <;> omega) (by omega);obtain ⟨N,m,i1,i2⟩:=hf.inn lo M hr (h2.bad hb);obtain ⟨j0,N2,m1,hi,j1,j2,j3⟩:=h3 m M i2 hb;exact ⟨max N N2,hi,(i1.mono (zAB _ _)).snoc j0 j1 (j2.mono (zAr _ _)),j3⟩
  ·exact ⟨_,rfl,hf⟩
theorem zcr(p:UInt8->Bool)(t:List UInt8):(t.takeWhile p).length+(t.drop (t.takeWhile p).length).length=t.length:=by
 rw[zzu];have:=(zAi (l:=t) p).length_le;omega
theorem zeO(t:List UInt8):(first t).2.length<=t.length:=by
 unfold first
 split
 ·simp
 ·rename_i c r;split
  ·unfold word;have:=(zAi (l:=c::r) zlx).length_le;split <;> exact this
  split
  ·unfold zo7;have:=(zAi (l:=c::r) zba).length_le;split
   ·simp
   ·exact this
  split
  ·simp
  ·simp only[zzf];omega
theorem zjg(t:List UInt8)(h:¬ (first t).1<=1):0<(first t).2.length:=by
 unfold first at h ⊢
 split at h
 ·simp at h
 ·rename_i c r;split at h
  ·rename_i hc;rw[if_pos hc];have hw:zlx c=true:=by simp[zlx,hc]
   unfold word;split <;> simp[hw]
  ·rename_i hc;rw[if_neg hc];split at h
   ·rename_i hd;rw[if_pos hd];unfold zo7 at h ⊢;split at h
    ·simp at h
    ·rename_i hl;rw[if_neg hl];simp[hd]
   ·rename_i hd;rw[if_neg hd];split at h
    ·simp at h
    ·rename_i hz;rw[if_neg hz];simp only[zzf];have:0<(c::r).length:=by simp
     omega
theorem zm8(n:Nat)(t:List UInt8)(p:Nat):zdN n t p≠[]:=by
 cases n <;> simp[zdN]
theorem zhu:∀ (n:Nat) (t:List UInt8) (p:Nat),zcx p (p+t.length+1) (zdN n t p)
 |0,t,p=>⟨zyN p,by show p+1<=_;omega⟩
 |n+1,t,p=>by
  have h1:=zcr zda t;have h2:=zeO (t.drop (t.takeWhile zda).length);unfold zdN;refine ⟨by simp,?_⟩;split
  ·show p+(t.takeWhile zda).length+1<=_;omega
  ·rename_i hx;have h3:=zjg _ hx;have ih:=zhu n ((t.drop (t.takeWhile zda).length).drop (first (t.drop (t.takeWhile zda).length)).2.length) (p+(t.takeWhile zda).length+(first (t.drop (t.takeWhile zda).length)).2.length);have he:p+(t.takeWhile zda).length+(first (t.drop (t.takeWhile zda).length)).2.length+((t.drop (t.takeWhile zda).length).drop (first (t.drop (t.takeWhile zda).length)).2.length).length+1=p+t.length+1:=by
    rw[zzu];omega
   rw[he]at ih;exact ih.down (by show p+(t.takeWhile zda).length+1<=_;omega)
theorem zjo(t:List UInt8):∀ c∈t.takeWhile zba,zba c=true:=fun c hc=>by
 have:=List.all_takeWhile (p:=zba) (l:=t);rw[List.all_eq_true]at this;exact this c hc
theorem zrv(t:List UInt8):((first t).1<=1->(first t).2=[])/\(first t).1<=4/\((first t).1=3->(first t).2.length<=9/\∀ c∈(first t).2,zba c=true):=by
 unfold first
 split
 ·exact ⟨fun _=>rfl,by simp,fun h=>by cases h⟩
 ·rename_i c r;split
  ·unfold word;split
   ·exact ⟨fun h=>absurd h (by simp),by simp,fun h=>absurd h (by simp)⟩
   ·exact ⟨fun h=>absurd h (by simp),by simp,fun h=>absurd h (by simp)⟩
  split
  ·unfold zo7;split
   ·exact ⟨fun _=>rfl,by simp,fun h=>absurd h (by simp)⟩
   ·rename_i hl;exact ⟨fun h=>absurd h (by simp),by simp,fun _=>⟨Nat.not_lt.1 hl,zjo _⟩⟩
  split
  ·exact ⟨fun _=>rfl,by simp,fun h=>absurd h (by simp)⟩
  ·exact ⟨fun h=>absurd h (by simp),by simp,fun h=>absurd h (by simp)⟩
theorem zoM:∀ (n:Nat) (t:List UInt8) (p:Nat),t.length<n->(∀ i x,(zdN n t p)[i]?=some x->(x.k<=1↔i+1=(zdN n t p).length))/\∀ x∈zdN n t p,(x.k<=1->x.s=[])/\(2<=x.k->x.s≠[])/\x.k<=4/\x.s.length<=t.length/\(x.k=3->x.s.length<=9/\∀ c∈x.s,zba c=true)
 |0,t,p,h=>absurd h (zAd _)
 |n+1,t,p,h=>by
  have h1:=zcr zda t;generalize hu:t.drop (t.takeWhile zda).length=u at h1;have h2:=zeO u;have h4:=zrv u;have hd:zdN (n+1) t p=⟨(first u).1,(first u).2,p+(t.takeWhile zda).length⟩::(if (first u).1<=1 then [] else zdN n (u.drop (first u).2.length) (p+(t.takeWhile zda).length+(first u).2.length)):=by
   rw[<-hu];rfl
  rw[hd];by_cases hx:(first u).1<=1
  ·rw[if_pos hx];refine ⟨fun i x hi=>?_,fun x hm=>?_⟩
   ·cases i with
    |zero=>
     simp only[zzl,zyP]at hi;subst hi;simp[hx]
    |succ i=>simp at hi
   ·simp only[zze]at hm;subst hm;exact ⟨h4.1,fun h=>absurd hx (by simp only at h;omega),h4.2.1,by simp only;omega,h4.2.2⟩
  ·rw[if_neg hx];have h3:=zjg _ hx;have ih:=zoM n (u.drop (first u).2.length) (p+(t.takeWhile zda).length+(first u).2.length) (by rw[zzu];omega);have hlen:(u.drop (first u).2.length).length<=t.length:=by rw[zzu];omega
   refine ⟨fun i x hi=>?_,fun x hm=>?_⟩
   ·cases i with
    |zero=>
     simp only[zzl,zyP]at hi;subst hi;have aH:=zm8 n (u.drop (first u).2.length) (p+(t.takeWhile zda).length+(first u).2.length);have:=zzA.2 aH;simp only[zy8];constructor
     ·intro h;exact absurd h hx
     ·intro h;omega
    |succ i=>
     rw[zzT]at hi;rw[ih.1 i x hi,zy8];omega
   ·rcases zzo.1 hm with rfl|hm
    ·exact ⟨h4.1,fun _ hn=>by simp only at hn;rw[hn]at h3;simp at h3,h4.2.1,by simp only;omega,h4.2.2⟩
    ·obtain ⟨a,b,c,d,e⟩:=ih.2 x hm;exact ⟨a,b,c,by omega,e⟩
theorem zcx.zyh:∀ {lo M:Nat} {l:List Tok},zcx lo M l->∀ t∈l,t.at_<M
 |_,_,[],_,t,h=>by simp at h
 |lo,M,x::l,hr,t,h=>by
  rcases zzo.1 h with rfl|h
  ·have:=hr.2.len;omega
  ·exact zcx.zyh hr.2 t h
end Th
theorem zev(s:ByteArray)(hs:s.size<=600):Good (zay s):=by
 have hz:s.data.toList.length=s.size:=by rw[zAe];rfl
 have hr:Th.zcx 0 (s.size+1) (zay s):=by
  have:=Th.zhu (s.size+1) s.data.toList 0;rw[hz,zzG]at this;exact this
 have hg:=Th.zoM (s.size+1) s.data.toList 0 (by omega);rw[hz]at hg;have hl:=hr.len;refine ⟨by omega,hg.1,fun t ht=>?_,fun t ht hk=>?_⟩
 ·obtain ⟨a,b,c,d,e⟩:=hg.2 t ht;have:=hr.zyh t ht;exact ⟨a,b,c,by omega,by omega⟩
 ·obtain ⟨a,b,c,d,e⟩:=hg.2 t ht;exact e hk
end Go.Proofs.YtgahgkddaljmkaaGreatDoor
namespace Go.Proofs.YtgahgkddaljmkaaGreatDoor
open Tryz
namespace Th
theorem zlZ{wr:Ex->List (List UInt8)->List Nat}{ae:List (List UInt8)}:∀ {seen:List (List UInt8)} {l:List Tok} {es:List Ex},es.length=l.length->zbq wr ae seen l es=[]->∀ e∈es,wr e ae=[]
 |_,[],[],_,_=>by simp
 |seen,t::r,e::es,hl,h=>by
  rw[zbq]at h;simp only[zAh]at h;intro x hx;rcases zzo.1 hx with rfl|hx
  ·exact h.1.2
  ·exact zlZ (by simpa using hl) h.2 x hx
 |_,[],_::_,hl,_=>by simp at hl
 |_,_::_,[],hl,_=>by simp at hl
theorem zoW{wr:Ex->List (List UInt8)->List Nat}{ae:List (List UInt8)}:∀ {l:List (Nat × List Tok)} {es:List Ex},zeG wr ae l es=[]->∀ (i:Nat) (a:Nat × List Tok) (d:Ex),l[i]?=some a->es[i]?=some d->wr d (ae++texts a.2)=[]
 |[],_,_,i,a,d,h1,_=>by simp at h1
 |_::_,[],_,i,a,d,_,h2=>by simp at h2
 |a::r,e::es,h,i,b,d,h1,h2=>by
  rw[zeG]at h;simp only[zAh]at h;cases i with
  |zero=>simp at h1 h2;subst h1 h2;exact h.1.2
  |succ i=>exact zoW h.2 i b d (by simpa using h1) (by simpa using h2)
theorem zjm{P:Ex->Nat->Nat->Prop}:∀ {lo hi:Nat} {l:List Tok} {es:List Ex},zbd P lo hi l es->∀ e∈es,∃ a b,P e a b
 |_,_,[],[],_=>by simp
 |lo,hi,t::r,e::es,h=>by
  obtain ⟨_,m,h1,h2⟩:=h;intro x hx;rcases zzo.1 hx with rfl|hx
  ·exact ⟨_,_,h1⟩
  ·exact zjm h2 x hx
 |_,_,[],_::_,h=>h.elim
 |_,_,_::_,[],h=>h.elim
theorem zlu{P:Ex->Nat->Nat->Prop}:∀ {lo hi:Nat} {l:List (Nat × List Tok)} {es:List Ex},zcb P lo hi l es->∀ e∈es,∃ a b,P e a b
 |_,_,[],[],_=>by simp
 |lo,hi,t::r,e::es,h=>by
  obtain ⟨_,m,_,h1,h2⟩:=h;intro x hx;rcases zzo.1 hx with rfl|hx
  ·exact ⟨_,_,h1⟩
  ·exact zlu h2 x hx
 |_,_,[],_::_,h=>h.elim
 |_,_,_::_,[],h=>h.elim
theorem zcd{m:Nat}:∀ (N:Nat) (e:Ex) (lo hi:Nat) (ae:List (List UInt8)),In N e lo hi->Cp.Dp m e->zar N e ae=[]->∀ x∈Cp.free m e,x∈ae
 |0,_,_,_,_,h,_,_=>h.elim
 |N+1,e,lo,hi,ae,h,hd,hw=>by
  intro x hx;have ak:=hd.free;rw[ak]at hx;rw[zar]at hw;rcases h.2 with hk|⟨hk,_⟩|⟨hk,b,m',k1,_,k2⟩|⟨hk,e1,e2,m',k1,k2,k3⟩|⟨hk,b,parts,m',k1,k2,k3⟩|⟨hk,b,ag,m',k1,k2,k3⟩
  ·have h2:e.kind≠2:=by omega
   have h4:e.kind≠4:=by omega
   have h5:¬ (e.kind=5\/e.kind=6):=by omega
   have h7:e.kind≠7:=by omega
   have h8:e.kind≠8:=by omega
   have h9:e.kind≠9:=by omega
   simp[h2,h4,h5,h7,h8,h9]at hx
  ·simp only[hk,if_true,zze]at hx hw;rw[hx];by_cases hc:ae.contains e.tok.s
   ·simpa using hc
   ·rw[if_neg hc]at hw;cases hw
  ·simp only[hk,k1]at hx hw;simp[Cp.zaN]at hx hw;have:=zcd N b _ _ _ k2 (hd.kid (by simp[k1])) hw.2 x hx.1;rcases zzi.1 this with h1|h1
   ·exact h1
   ·exact absurd h1 hx.2
  ·have h2:e.kind≠2:=by omega
   have h4:e.kind≠4:=by omega
   simp only[h2,h4,hk,k1,if_false,if_true]at hx hw;simp only[List.headD_cons,List.tail_cons,zAh]at hw;rcases Cp.zaw.1 hx with hx|hx
   ·exact zcd N e1 _ _ _ k2 (hd.kid (by simp[k1])) hw.1 x hx
   ·exact zcd N e2 _ _ _ k3 (hd.kid (by simp[k1])) hw.2 x hx
  ·obtain ⟨_,b',ps,A0,gK⟩:=hd.zea.k7 hk;rw[k1]at A0;cases A0;have body:∀ y∈Cp.zaH (Cp.free m b) (texts e.names),zar N b (ae++texts e.names)=[]->y∈ae:=fun y hy yf=>by
    obtain ⟨y1,y2⟩:=Cp.zaN.1 hy;have:=zcd N b _ _ _ k3 (hd.kid (by simp[k1])) yf y y1;rcases zzi.1 this with h1|h1
    ·exact h1
    ·exact absurd h1 y2
   have bind:∀ ar:List (List UInt8),zbq (zar N) ar [] e.names parts=[]->∀ y∈Cp.zav (Cp.free m) parts [],y∈ar:=fun ar yf y hy=>by
    rcases Cp.zbh.1 hy with hy|⟨p,hp,hy⟩
    ·simp at hy
    ·obtain ⟨a1,a2,hin⟩:=zjm k2 p hp;exact zcd N p _ _ _ hin (hd.kid (by simp[k1,hp])) (zlZ gK yf p hp) y hy
   rcases hk with hk|hk
   ·simp only[hk,k1]at hx hw;simp at hx hw;rcases Cp.zaw.1 hx with hx|hx
    ·exact bind _ hw.1 x hx
    ·exact body x hx hw.2
   ·simp only[hk,k1]at hx hw;simp at hx hw;rcases Cp.zaw.1 hx with hx|hx
    ·obtain ⟨y1,y2⟩:=Cp.zaN.1 hx;rcases zzi.1 (bind _ hw.1 x y1) with h1|h1
     ·exact h1
     ·exact absurd h1 y2
    ·exact body x hx hw.2
  ·simp only[hk,k1]at hx hw;simp at hx hw;rcases Cp.zaw.1 hx with hx|hx
   ·exact zcd N b _ _ _ k2 (hd.kid (by simp[k1])) hw.1 x hx
   ·rcases Cp.zcL.1 hx with hx|⟨i,a,d,i1,i2,i3,i4⟩
    ·simp at hx
    ·have rZ:=zy1 i2;obtain ⟨a1,a2,hin⟩:=zlu k3 d rZ;have:=zcd N d _ _ _ hin (hd.kid (by simp[k1,rZ])) (zoW hw.2 i a d i1 i2) x i3;rcases zzi.1 this with h1|h1
     ·exact h1
     ·exact absurd h1 i4
theorem ztd:∀ (n:Nat) (e:Ex),Cp.Dp n e->∀ x∈Cp.free n e,x≠[]
 |0,_,h=>h.elim
 |n+1,e,h=>by
  intro x hx;have ih:∀ k∈e.kids,∀ y∈Cp.free n k,y≠[]:=fun k hk=>ztd n k (h.2 k hk)
  rw[Cp.free]at hx;split at hx
  ·next hk=>rw[zze.1 hx];exact h.1.us hk
  ·split at hx
   ·split at hx
    ·next b hb=>exact ih b (by simp[hb]) x (Cp.zaN.1 hx).1
    ·simp at hx
   ·split at hx
    ·split at hx
     ·next a b hb=>
      rcases Cp.zaw.1 hx with hx|hx
      ·exact ih a (by simp[hb]) x hx
      ·exact ih b (by simp[hb]) x hx
     ·simp at hx
    ·split at hx
     ·split at hx
      ·next b ps hb=>
       rcases Cp.zaw.1 hx with hx|hx
       ·rcases Cp.zbh.1 hx with hx|⟨p,hp,hx⟩
        ·simp at hx
        ·exact ih p (by simp[hb,hp]) x hx
       ·exact ih b (by simp[hb]) x (Cp.zaN.1 hx).1
      ·simp at hx
     ·split at hx
      ·split at hx
       ·next b ps hb=>
        rcases Cp.zaw.1 hx with hx|hx
        ·rcases Cp.zbh.1 (Cp.zaN.1 hx).1 with hx|⟨p,hp,hx⟩
         ·simp at hx
         ·exact ih p (by simp[hb,hp]) x hx
        ·exact ih b (by simp[hb]) x (Cp.zaN.1 hx).1
       ·simp at hx
      ·split at hx
       ·split at hx
        ·next b bs hb=>
         rcases Cp.zaw.1 hx with hx|hx
         ·exact ih b (by simp[hb]) x hx
         ·rcases Cp.zcL.1 hx with hx|⟨i,a,d,i1,i2,i3,i4⟩
          ·simp at hx
          ·exact ih d (by simp[hb,zy1 i2]) x i3
        ·simp at hx
       ·simp at hx
theorem zxi:∀ {m:Nat} {e:Ex},Cp.Dp m e->Cp.Dp (Cp.wt m e) e
 |0,_,h=>h.elim
 |m+1,e,h=>by
  have hk:∀ k∈e.kids,Cp.Dp (e.names.length+(e.zao.map fun a=>1+a.2.length).sum+(e.kids.map (Cp.wt m)).sum) k:=fun k hk=>by
   refine (zxi (h.2 k hk)).le ?_;have h1:∀ (l:List Ex),k∈l->Cp.wt m k<=(l.map (Cp.wt m)).sum:=by
    intro l
    induction l with
    |nil=>simp
    |cons y l ih=>
     intro hm;rw[zza,zzd];rcases zzo.1 hm with rfl|hm
     ·omega
     ·have:=ih hm;omega
   have:=h1 e.kids hk;omega
  rw[Cp.wt,show 1+e.names.length+(e.zao.map fun a=>1+a.2.length).sum+(e.kids.map (Cp.wt m)).sum=(e.names.length+(e.zao.map fun a=>1+a.2.length).sum+(e.kids.map (Cp.wt m)).sum)+1 by omega];exact ⟨h.1,hk⟩
theorem zl0{n:Nat}{all:List (List UInt8)}:∀ {l:List zbr} {seen:List (List UInt8)},zbL n all seen l=[]->∀ x∈l,zar n x.e (all++texts x.params)=[]
 |[],_,_=>by simp
 |y::l,seen,h=>by
  rw[zbL]at h;simp only[zAh]at h;intro x hx;rcases zzo.1 hx with rfl|hx
  ·exact h.1.2
  ·exact zl0 h.2 x hx
theorem zjn{n:Nat}:∀ {lo hi:Nat} {l:List zbr},zbM n lo hi l->∀ x∈l,∃ a b,In n x.e a b
 |_,_,[],_=>by simp
 |lo,hi,y::l,h=>by
  obtain ⟨_,m1,m2,_,h1,h2⟩:=h;intro x hx;rcases zzo.1 hx with rfl|hx
  ·exact ⟨_,_,h1⟩
  ·exact zjn h2 x hx
theorem zfE:∀ (n:Nat) (t:List UInt8) (p:Nat),(zdN n t p).length<=t.length+1
 |0,t,p=>by simp[zdN]
 |n+1,t,p=>by
  have h1:=zcr zda t;generalize hu:t.drop (t.takeWhile zda).length=u at h1;have h2:=zeO u;have hd:zdN (n+1) t p=⟨(first u).1,(first u).2,p+(t.takeWhile zda).length⟩::(if (first u).1<=1 then [] else zdN n (u.drop (first u).2.length) (p+(t.takeWhile zda).length+(first u).2.length)):=by
   rw[<-hu];rfl
  rw[hd];by_cases hx:(first u).1<=1
  ·rw[if_pos hx];simp
  ·rw[if_neg hx];have h3:=zjg _ hx;have ih:=zfE n (u.drop (first u).2.length) (p+(t.takeWhile zda).length+(first u).2.length);rw[zzu]at ih;simp only[zy8];omega
theorem zgT:∀ {l:List zbr},zbl l=true->zcO∈zaq l
 |[],h=>by simp[zbl]at h
 |x::l,h=>by
  rw[zbl]at h;split at h
  ·next hx=>simp at hx;simp[zaq,hx]
  ·have:=zgT h;simp[zaq]at this ⊢;exact .inr this
structure zyf (D:Nat) (l:List zbr):Prop where
 dp:∀ f∈l,Cp.Dp D f.e
 par:∀ f∈l,∀ t∈f.params,t.s≠[]
 nm:∀ f∈l,∀ x∈Cp.free D f.e,x≠[]/\(x∈texts f.params\/x∈zaq l)
 sum:(l.map fun f=>Cp.wt D f.e+f.params.length+1).sum<=1300
 main:zcO∈zaq l
theorem zhY{l:List zbr}{f:zbr}(g:zbr->Nat)(h:f∈l):g f<=(l.map g).sum:=by
 induction l with
 |nil=>simp at h
 |cons y l ih=>
  rw[zza,zzd];rcases zzo.1 h with rfl|h
  ·omega
  ·have:=ih h;omega
theorem zyf.each{D:Nat}{l:List zbr}(h:zyf D l){f:zbr}(hf:f∈l):Cp.wt D f.e+f.params.length+1<=1300:=zyR (zhY (fun f=>Cp.wt D f.e+f.params.length+1) hf) h.sum
end Th
theorem zqw{T:List Th.Tok}(h:Good T):Th.TK2 ⟨T,none⟩:=by
 intro t ht;refine ⟨fun hk=>?_,fun hk=>((h.text t ht).2.1) (by omega)⟩;obtain ⟨h1,h2⟩:=h.num t ht hk;have h3:=zuM t.s 0 h2;have h4:10 ^ t.s.length<=10 ^ 9:=zz9 (by decide) h1;show t.s.foldl (fun a c=>10*a+(c.toNat-48)) 0<=999999999;omega
variable {s:ByteArray}{q:List Th.zbr × Th.St}{N:Nat}
theorem zmA(hs:s.size<=600)(hp:Plain s q N)(h0:(answer s.size q N).1=0):Th.zyf 1300 q.1:=by
 have hb:q.2.bad=none:=by
  unfold answer at h0;cases hb:q.2.bad with
  |none=>rfl
  |some p=>rw[hb]at h0;simp at h0
 obtain ⟨n,k,_,_,hq⟩:=hp.lines;obtain ⟨lo,hi,hin,_⟩:=hp.within hb;have hl:=Th.zfE (s.size+1) s.data.toList 0;have hz:s.data.toList.length=s.size:=by rw[zAe];rfl
 rw[hz]at hl;have aj:(zay s).length<=s.size+1:=hl;obtain ⟨m,w1,w2⟩:=Th.zgp k [] _ ⟨zay s,none⟩ q hq (zqw hp.zct) (fun _=>⟨0,by simp,0,by simp,by simp⟩) hb;simp only at w2;have AW:Th.zbL N (Th.zaq q.1) [] q.1=[]/\Th.zbl q.1=true:=by
  unfold answer at h0;rw[hb]at h0;simp only at h0;cases hw:Th.zbL N (Th.zaq q.1) [] q.1 with
  |cons p r=>rw[hw]at h0;simp at h0
  |nil=>
   rw[hw]at h0;simp only[List.head?_nil]at h0;refine ⟨rfl,?_⟩;by_cases hm:Th.zbl q.1=true
   ·exact hm
   ·rw[if_neg hm]at h0;simp at h0
 have dj:∀ f∈q.1,Cp.wt m f.e<=1300:=fun f hf=>by have:=Th.zhY (fun f=>Cp.wt m f.e+f.params.length+1) hf;omega
 have hD:∀ f∈q.1,Cp.Dp 1300 f.e:=fun f hf=>(Th.zxi (w1 f hf).1).le (dj f hf)
 have Fq:∀ f∈q.1,Cp.wt 1300 f.e=Cp.wt m f.e:=fun f hf=>by rw[<-Cp.zk9 (hD f hf) (zAc 1300 m),Cp.zk9 (w1 f hf).1 (zz0 m 1300)]
 refine ⟨hD,fun f hf=>(w1 f hf).2,fun f hf x hx=>⟨Th.ztd _ _ (hD f hf) x hx,?_⟩,?_,Th.zgT AW.2⟩
 ·obtain ⟨a,b,hI⟩:=Th.zjn hin f hf;have:=Th.zcd N f.e a b _ hI (hD f hf) (Th.zl0 AW.1 f hf) x hx;rcases zzi.1 this with h|h
  ·exact .inr h
  ·exact .inl h
 ·rw[zAf (fun f hf=>by rw[Fq f hf])];omega
end Go.Proofs.YtgahgkddaljmkaaGreatDoor
namespace Go.Proofs.YtgahgkddaljmkaaGreatDoor
open Tryz
open Go.RowKit Go.Shelf
attribute [local go_sem ↓] Go.wp_at_zero Go.wp_at_succ
theorem zdk{P:Program}{fn:Func}{p u:Tmp}{ty:TypeId}(h:fn.results=#[.cell p ty,.tmp u])(tmps:Array Value)(w:World)(g:Nat)(t:TypeId)(cs:Array Value)(fr:Nat × Nat)(d:TypeDesc)(hp:tmps.getD p undef=.pointer (some ⟨g,0,none⟩))(hg:w.heap[g]?=some (.cells cs t fr))(hu:P.underlying ty=some d)(hd:(match d with|.struct _|.array _ _=>true|_=>false)=true)(hi:(P.info? ty).map (·.size)=some cs.size):
  (results fn tmps).run P w=.ok (.tuple #[.agg cs,tmps.getD u undef]) w:=by
 have lu:tmps[p]?.getD undef=.pointer (some ⟨g,0,none⟩):=by simpa using hp
 simp[results,h,lu,asAddr,run_loadVar_row w g t ty cs fr d hg hu hd hi]
theorem zwW{S:Nat->Prop}{w:World}:∀ {D m:Nat} {v:Value} {e:Th.Ex},Rep S w m v e->Cp.Dp D e->Rep S w D v e
 |0,_,_,_,_,h=>h.elim
 |D+1,0,_,_,h,_=>h.elim
 |D+1,m+1,v,e,h,hd=>by
  have ih:∀ {v:Value} {k:Th.Ex},k∈e.kids->Rep S w m v k->Rep S w D v k:=fun hk hr=>zwW hr (hd.2 _ hk)
  rcases h with h|h|h|⟨hk,sv,bv,b,h1,h2,h3,h4⟩|⟨hk,v1,v2,e1,e2,h1,h2,h3,h4⟩|⟨hk,v1,v2,e1,e2,h1,h2,h3,h4⟩|⟨hk,sv,bv,b,parts,pvs,h1,h2,h3,h4,h5,h6,h7⟩|⟨hk,cv,sv,b,ag,nvs,bvs,h1,h2,h3,h4,h5,h6,h7,h8,h9⟩
  ·exact .inl h
  ·exact .inr (.inl h)
  ·exact .inr (.inr (.inl h))
  ·exact .inr (.inr (.inr (.inl ⟨hk,sv,bv,b,h1,h2,h3,ih (by simp[h1]) h4⟩)))
  ·exact .inr (.inr (.inr (.inr (.inl ⟨hk,v1,v2,e1,e2,h1,h2,ih (by simp[h1]) h3,ih (by simp[h1]) h4⟩))))
  ·exact .inr (.inr (.inr (.inr (.inr (.inl ⟨hk,v1,v2,e1,e2,h1,h2,ih (by simp[h1]) h3,ih (by simp[h1]) h4⟩)))))
  ·exact .inr (.inr (.inr (.inr (.inr (.inr (.inl ⟨hk,sv,bv,b,parts,pvs,h1,h2,h3,h4,h5,fun i pv p a c=>ih (by simp[h1,zy1 c]) (h6 i pv p a c),ih (by simp[h1]) h7⟩))))))
  ·exact .inr (.inr (.inr (.inr (.inr (.inr (.inr ⟨hk,cv,sv,b,ag,nvs,bvs,h1,h2,h3,h4,h5,h6,h7,fun i bv p a c=>ih (by simp[h1,zy1 c]) (h8 i bv p a c),ih (by simp[h1]) h9⟩))))))
theorem znC{S:Nat->Prop}{w:World}{pv:Value}{l:List Th.zbr}(hr:ziZ S w pv l)(ho:Th.zyf 1300 l):
  Calls prog 35 #[pv] w fun e w'=>∃ rv,e=.returned (.agg #[rv,.int .i64 l.length,.int .i64 ((Th.zaq l).idxOf Th.zcO:Nat)])/\zqc w' rv (Cp.program 1300 l)/\Fr (fun _=>False) w w':=by
 obtain ⟨nvs,bvs,m,h1,h2,af,jY⟩:=hr;have hlen:l.length<=1300:=by
  have h0:∀ (l:List Th.zbr),l.length<=(l.map fun f=>Cp.wt 1300 f.e+f.params.length+1).sum:=by
   intro l
   induction l with
   |nil=>simp
   |cons x l ih=>rw[zza,zzd,zy8];omega
  have:=h0 l;have:=ho.sum;omega
 have dh:l.length+(l.map fun f=>8*Cp.wt 1300 f.e).sum<=1000000:=by
  have h0:∀ (l:List Th.zbr),(l.map fun f=>8*Cp.wt 1300 f.e).sum<=8*(l.map fun f=>Cp.wt 1300 f.e+f.params.length+1).sum:=by
   intro l
   induction l with
   |nil=>simp
   |cons x l ih=>rw[zza,zzd,zza,zzd];omega
  have:=h0 l;have:=ho.sum;omega
 have aJ:∀ f∈l,f.params.length<=5000/\∀ bl:List (Nat × List Ins),bl.length+8*Cp.wt 1300 f.e<=1000000->Fit 1300 1300 (Th.zaq l) ⟨bl,(Th.texts f.params).reverse,[]⟩ f.e:=fun f hf=>by
  have he:=ho.each hf;have hp:(1300+8)*Cp.wt 1300 f.e<=(1300+8)*1300:=zzp _ (by omega);refine ⟨by omega,fun bl cV=>⟨ho.dp f hf,by omega,by omega,by simp[Th.zaq];omega,fun x hx=>?_,by simp;omega,by simp[Th.texts];omega,cV⟩⟩;obtain ⟨a,b⟩:=ho.nm f hf x hx;refine ⟨a,?_⟩;rcases b with b|b
  ·exact .inl (by simpa using b)
  ·exact .inr b
 have aX:∀ f∈l,∀ q:Cp.Bs,(Cp.work (Cp.free 1300) (Th.zaq l) 1300 f.e 0 q).blocks.length<=q.blocks.length+8*Cp.wt 1300 f.e/\q.blocks.length<=(Cp.work (Cp.free 1300) (Th.zaq l) 1300 f.e 0 q).blocks.length:=fun f hf q=>by
  have he:=ho.each hf;have h3:=(Cp.zaK 1300 1300 (Th.zaq l) 1300 f.e 0 q (ho.dp f hf) (by omega)).2.2;obtain ⟨⟨⟨bl,e1,_⟩,_⟩,_⟩:=Cp.zbC (M:=1300) 1300 (Th.zaq l) (by omega) 1300 f.e 0 q (ho.dp f hf) (ho.dp f hf) (by omega);refine ⟨by omega,?_⟩;rw[e1];simp
 have xK:zdv S w 1300 l nvs bvs:=fun i x nv bv a b c=>⟨(jY i x nv bv a b c).1,zwW (jY i x nv bv a b c).2 (ho.dp x (zy1 a))⟩
 have hg:=Cp.zn9 (M:=1300) (N:=1300) (l:=l) (by omega) (fun f hf=>⟨ho.dp f hf,by have:=ho.each hf;omega,by have:=ho.each hf;omega⟩);have bp:0<l.length:=by have:=List.length_pos_of_mem ho.main;simpa [Th.zaq] using this
 refine (znB (zo0 1300 (by omega) 1300 (zyN _)) h1 h2 af xK rfl ho.main aJ aX dh).mono ?_;rintro e w' ⟨Z,cb,rv,rfl,aE,ak⟩;exact ⟨rv,rfl,zsQ aE hg.1 (by omega),ak⟩
def zb9 (x:Int) (m:Nat):Nat:=(min (max x 0) (m:Int)).toNat
variable {s:ByteArray}{q:List Th.zbr × Th.St}{N:Nat}
theorem zwv(hs:s.size<=600)(hp:Plain s q N)(h0:(answer s.size q N).1=0)(heap fuel:Int){g:Nat}{k n t a:Int}(hr:∀ pv,runM pv (Cp.program 1300 q.1) q.1.length ((Th.zaq q.1).idxOf Th.zcO) (zb9 heap 262144) (zb9 fuel 4000000) g=some (k,n,t,a))(w:World):
  Calls prog 25 #[.string s,.int .i64 heap,.int .i64 fuel] w fun e w'=>e=.returned (.tuple #[ziu k n t a,.int .i64 0])/\Fr (fun _=>False) w w':=by
 have bU:=zmA hs hp h0;have hlen:q.1.length<=1000000:=by
  have h0:∀ (l:List Th.zbr),l.length<=(l.map fun f=>Cp.wt 1300 f.e+f.params.length+1).sum:=by
   intro l
   induction l with
   |nil=>simp
   |cons x l ih=>rw[zza,zzd,zy8];omega
  have:=h0 q.1;have:=bU.sum;omega
 have hH:((zb9 heap 262144:Nat):Int)=min (max heap 0) 262144:=by unfold zb9;omega
 have hF:((zb9 fuel 4000000:Nat):Int)=min (max fuel 0) 4000000:=by unfold zb9;omega
 have f0:Fr (fun _=>False) w (w.alloc (.cells #[.int .i64 0,.int .i64 0,.int .i64 0,.int .i64 0] 35)):=(Fr.refl _ _).alloc _;have dn:=zab (zmH hs hp (w.alloc (.cells #[.int .i64 0,.int .i64 0,.int .i64 0,.int .i64 0] 35)));have HB:=zab (Blk.new w [.int .i64 0,.int .i64 0,.int .i64 0,.int .i64 0] 35);have F0:=zab f0;have CC:=zab (fun (w1:World) (pv:Value) (hp:ziZ (zat (w.alloc (.cells #[.int .i64 0,.int .i64 0,.int .i64 0,.int .i64 0] 35))) w1 pv q.1)=>znC hp bU);have CR:=zab (fun (w2:World) (rv:Value) (hc:zqc w2 rv (Cp.program 1300 q.1))=>zxI (g:=g) hc hlen (show zb9 heap 262144<=1000000 by unfold zb9;omega) (show zb9 fuel 4000000<=1000000000 by unfold zb9;omega) (hr rv));clear f0 hp hs hr bU;obtain ⟨a',ha⟩:∃ a,answer s.size q N=a:=⟨_,rfl⟩;unfold zl2 at dn;rw[ha]at dn h0;obtain ⟨a1,a2⟩:=a';simp only at h0;subst h0;rw[hH,hF]at CR;clear ha hH hF;go_enter func25,ntmps25
 go_wp2_with fail
 refine dn.o.mono ?_;rintro e w1 ⟨hb,pv,rfl,⟨pa,pk,pc,rfl⟩,aR⟩;have C1:=zab (CC.o w1 _ (aR trivial));have F1:=zab (F0.o.trans (Fr.below hb));have B1:=zab (Fr.blk (K:=fun _=>False) HB.o (Fr.below hb) (by simp));clear hb aR dn CC;go_wp2_with fail
 refine C1.o.mono ?_;rintro e w2 ⟨rv,rfl,hc,f2⟩;have C2:=zab (CR.o w2 rv hc);have F2:=zab (F1.o.trans f2);have B2:=zab (Fr.blk B1.o f2 (by simp));clear hc f2 C1 CR;go_wp2_with fail
 refine C2.o.mono ?_;rintro e w3 ⟨rfl,f3⟩;have ia:=Fr.blk B2.o f3 (by simp);have p0:=Blk.cell ia 0;have p1:=Blk.cell ia 1;have p2:=Blk.cell ia 2;have p3:=Blk.cell ia 3;have z0:=Blk.frozen ia 0;have z1:=Blk.frozen ia 1;have z2:=Blk.frozen ia 2;have z3:=Blk.frozen ia 3;simp at p0 p1 p2 p3;have mw:=zab ia;have F3:=zab (F2.o.trans f3);unfold ziu;clear ia f3 C2;go_wp2_with fail
 refine bodyPost_ret (zdk rfl _ _ w.heap.size _ _ _ _ rfl (Blk.set (Blk.set (Blk.set (Blk.set mw.o 0 _) 1 _) 2 _) 3 _) underlying35 rfl (by kernel_rfl)) rfl ?_;exact ⟨rfl,(((F3.o.set _ _ (.inr (zyN _))).set _ _ (.inr (zyN _))).set _ _ (.inr (zyN _))).set _ _ (.inr (zyN _))⟩
end Go.Proofs.YtgahgkddaljmkaaGreatDoor
namespace Go.Proofs.YtgahgkddaljmkaaGreatDoor
open Tryz
namespace Ab
inductive Nd where
 |num (v:Int)
 |data (t:Nat) (fs:List Nat)
 |clo (b:Nat) (fs:List Nat)
 |busy
 |fwd (a:Nat)
inductive Wd where
 |ad (a:Nat)
 |mk (k b:Nat)
def sz:Nd->Nat
 |.num _=>2
 |.data _ fs=>1+fs.length
 |.clo _ fs=>1+fs.length
 |.busy=>1
 |.fwd _=>1
def zdd:Nd->List Nat
 |.data _ fs=>fs
 |.clo _ fs=>fs
 |_=>[]
def hdr:Nd->Int
 |.num _=>0
 |.data t fs=>Hd 1 t fs.length
 |.clo b fs=>Hd 2 b fs.length
 |.busy=>Hd 3 0 0
 |.fwd _=>0
def zaV:Nd->Bool
 |.fwd _=>true
 |_=>false
def zo6:Nd->Prop
 |.data t fs=>t<=1000000000/\fs.length<4096
 |.clo b fs=>b<=1000000000/\fs.length<4096
 |_=>True
variable {nd:Nd}
theorem zde(h:zo6 nd):0<=hdr nd/\hdr nd<9223372036854775808:=by
 cases nd <;> simp only[hdr,zo6]at * <;> (try unfold Hd) <;> omega
theorem zmn(hf:zaV nd=false):hdr nd%16≠4/\hdr nd%16≠5:=by
 cases nd <;> simp only[hdr] <;> first|(constructor <;> decide)|(unfold Hd;omega)|simp[zaV]at hf
theorem zlr(h:zo6 nd)(hf:zaV nd=false):behind (hdr nd)+1=sz nd:=by
 cases nd with
 |num v=>simp[behind,hdr,sz]
 |data t fs=>
  simp only[zo6]at h;unfold behind;rw[if_neg (by simp only[hdr];rw[zbx (by omega)];omega)];simp only[hdr,sz];rw[zeb (by omega) h.2];omega
 |clo t fs=>
  simp only[zo6]at h;unfold behind;rw[if_neg (by simp only[hdr];rw[zbx (by omega)];omega)];simp only[hdr,sz];rw[zeb (by omega) h.2];omega
 |busy=>simp[behind,hdr,sz,Hd]
 |fwd a=>simp[zaV]at hf
theorem ztf(h:zo6 nd)(hf:zaV nd=false):(hdr nd/16%4096).toNat=(zdd nd).length:=by
 cases nd with
 |num v=>simp[hdr,zdd]
 |data t fs=>
  simp only[zo6]at h;simp only[hdr,zdd];rw[zeb (by omega) h.2];omega
 |clo t fs=>
  simp only[zo6]at h;simp only[hdr,zdd];rw[zeb (by omega) h.2];omega
 |busy=>simp[hdr,zdd,Hd]
 |fwd a=>simp[zaV]at hf
theorem zep(nd:Nd):(zdd nd).length+1<=sz nd:=by cases nd <;> simp[zdd,sz] <;> omega
theorem zhd(nd:Nd):1<=sz nd:=by cases nd <;> simp[sz]
def Rf (φ:Nat->Option Nat) (h:List Nd) (x:Int) (a:Nat):Prop:=∃ p:Nat,x=(p:Int)/\(φ a=some p\/∃ b,h[a]?=some (.fwd b)/\φ b=some p)
def RW (φ:Nat->Option Nat) (h:List Nd) (x:Int):Wd->Prop
 |.ad a=>Rf φ h x a
 |.mk k b=>x=Mk k b
def AtC (ws:List Int) (ρ:Int->Nat->Prop) (p:Nat) (nd:Nd):Prop:=ws[p]?=some (hdr nd)/\(∀ v,nd=.num v->ws[p+1]?=some v)/\∀ (i:Nat) (f:Nat),(zdd nd)[i]?=some f->∃ x,ws[p+1+i]?=some x/\ρ x f
def At (ws:List Int) (φ:Nat->Option Nat) (h:List Nd) (p:Nat) (nd:Nd):Prop:=(∃ b p',nd=.fwd b/\φ b=some p'/\ws[p]?=some (Hd 4 p' 0))\/(zaV nd=false/\AtC ws (Rf φ h) p nd)
structure Rel (s:Sto) (fc:List Int) (h:List Nd) (st:List Wd) (fns:List Nat) (φ:Nat->Option Nat):Prop where
 low:s.low=0\/s.low=s.half
 len:2*s.half<=s.ws.length
 wl:s.ws.length<=1000000
 lf:s.low<=s.free
 ft:s.free<=s.top
 tp:s.top+st.length=s.low+s.half
 stk:∀ (i:Nat) (w:Wd),st[i]?=some w->∃ x,s.ws[s.low+s.half-1-i]?=some x/\RW φ h x w
 fl:fc.length=fns.length
 fn:∀ (i:Nat) (a:Nat),fns[i]?=some a->∃ x,fc[i]?=some x/\Rf φ h x a
 nod:∀ a p,φ a=some p->∃ nd,h[a]?=some nd/\s.low<=p/\p+sz nd<=s.free/\At s.ws φ h p nd
 dis:∀ a a' p p' nd nd',φ a=some p->φ a'=some p'->h[a]?=some nd->h[a']?=some nd'->a≠a'->p+sz nd<=p'\/p'+sz nd'<=p
 ok:∀ (a:Nat) (nd:Nd),h[a]?=some nd->zo6 nd
 fw:∀ (a b:Nat),h[a]?=some (.fwd b)->∃ nd,h[b]?=some nd/\zaV nd=false
def can (h:List Nd) (a:Nat):Nat:=
 match h[a]? with
 |some (.fwd b)=>b
 |_=>a
theorem zbu{α:Type}(L:List α)(off:Nat)(cs:List α)(i:Nat)(h:off+cs.length<=L.length):(Go.splice L off cs)[i]?=if i<off then L[i]? else if i<off+cs.length then cs[i-off]? else L[i]?:=by
 unfold Go.splice;rw[zzj,zzf,zzV (by omega)];split
 ·next hi=>rw[zzy,if_pos hi]
 ·next hi=>
  rw[zzj];split
  ·next h2=>rw[if_pos (by omega)]
  ·next h2=>
   rw[if_neg (by omega),zzx];congr 1;omega
theorem zju:∀ (n:Nat) (l:List Nat),l.Nodup->(∀ x∈l,x<n)->l.length<=n
 |0,l,_,h=>by
  cases l with
  |nil=>simp
  |cons x l=>have:=h x (by simp);omega
 |n+1,l,hn,h=>by
  by_cases hm:n∈l
  ·have h1:=zju n (l.erase n) (hn.erase n) (fun x hx=>by
    have h2:=List.mem_of_mem_erase hx;have h3:=h x h2;have h4:x≠n:=fun e=>by
     subst e;exact (List.Nodup.not_mem_erase hn) hx
    omega)
   rw[List.length_erase_of_mem hm]at h1;omega
  ·have h1:=zju n l hn (fun x hx=>by
    have h3:=h x hx;have h4:x≠n:=fun e=>hm (e ▸ hx)
    omega)
   omega
theorem ztZ(lo hi:Nat)(l:List (Nat × Nat))(h1:∀ x∈l,lo<=x.1/\x.1+x.2<=hi)(h2:l.Pairwise fun x y=>x.1+x.2<=y.1\/y.1+y.2<=x.1):(l.map Prod.snd).sum<=hi-lo:=by
 have hl:∀ l:List (Nat × Nat),(l.flatMap fun x=>(List.range x.2).map fun j=>x.1-lo+j).length=(l.map Prod.snd).sum:=by
  intro l
  induction l with
  |nil=>rfl
  |cons x l ih=>simp[List.flatMap_cons,ih]
 have cQ:∀ (l:List (Nat × Nat)) (y:Nat),y∈(l.flatMap fun x=>(List.range x.2).map fun j=>x.1-lo+j)->∃ x∈l,x.1-lo<=y/\y<x.1-lo+x.2:=by
  intro l y hy;obtain ⟨x,hx,hy⟩:=List.mem_flatMap.1 hy;obtain ⟨j,hj,rfl⟩:=zz1.1 hy;have:=List.mem_range.1 hj;exact ⟨x,hx,by omega,by omega⟩
 have eZ:∀ l:List (Nat × Nat),(∀ x∈l,lo<=x.1)->(l.Pairwise fun x y=>x.1+x.2<=y.1\/y.1+y.2<=x.1)->(l.flatMap fun x=>(List.range x.2).map fun j=>x.1-lo+j).Nodup:=by
  intro l fN hp
  induction l with
  |nil=>simp
  |cons x l ih=>
   rw[List.flatMap_cons,List.nodup_append];rw[List.pairwise_cons]at hp;refine ⟨?_,ih (fun y hy=>fN y (by simp[hy])) hp.2,?_⟩
   ·rw[List.Nodup,List.pairwise_map];exact List.Pairwise.imp (fun h=>by omega) List.nodup_range
   ·intro a ha b hb;obtain ⟨j,hj,rfl⟩:=zz1.1 ha;have:=List.mem_range.1 hj;obtain ⟨y,hy,y1,y2⟩:=cQ l b hb;have h3:=hp.1 y hy;have h4:=fN x (by simp);have h5:=fN y (by simp[hy]);omega
 rw[<-hl];refine zju _ _ (eZ l (fun x hx=>(h1 x hx).1) h2) ?_;intro y hy;obtain ⟨x,hx,y1,y2⟩:=cQ l y hy;have:=h1 x hx;omega
def zkL (h:List Nd) (a:Nat):Nat:=
 match h[a]? with
 |some nd=>sz nd
 |none=>1
def pos (h:List Nd) (base:Nat) (C:List Nat) (i:Nat):Nat:=base+((C.take i).map (zkL h)).sum
def phi (h:List Nd) (base:Nat) (C:List Nat) (a:Nat):Option Nat:=if a∈C then some (pos h base C (C.idxOf a)) else none
variable {h:List Nd}{base:Nat}{C D:List Nat}{i:Nat}
theorem zjB(hi:i<=C.length):pos h base (C++D) i=pos h base C i:=by
 unfold pos;rw[List.take_append_of_le_length hi]
theorem ziS{c:Nat}(hc:C[i]?=some c):pos h base C (i+1)=pos h base C i+zkL h c:=by
 unfold pos;rw[zAn,hc];simp;omega
theorem zfC{j:Nat}(ki:i<=j):pos h base C i<=pos h base C j:=by
 unfold pos;have h1:C.take i=(C.take j).take i:=by rw[zAq,zzV ki]
 have h2:((C.take j).map (zkL h)).sum=(((C.take j).take i).map (zkL h)).sum+(((C.take j).drop i).map (zkL h)).sum:=by rw[<-zz5,<-zz3,zAj]
 rw[<-h1]at h2;omega
theorem zii{j c:Nat}(hc:C[i]?=some c)(ki:i<j):pos h base C i+zkL h c<=pos h base C j:=by
 rw[<-ziS hc];exact zfC ki
variable {a p:Nat}
theorem ztP(hp:phi h base C a=some p):phi h base (C++D) a=some p:=by
 unfold phi at hp ⊢;split at hp
 ·next hm=>
  rw[if_pos (by simp[hm])];rw[List.idxOf_append,if_pos hm,zjB (zAk (zzF hm))];exact hp
 ·cases hp
variable {x:Int}
theorem Rf.app(hr:Rf (phi h base C) h x a):Rf (phi h base (C++D)) h x a:=by
 obtain ⟨p,hx,hp⟩:=hr;refine ⟨p,hx,?_⟩;rcases hp with hp|⟨b,hb,hp⟩
 ·exact .inl (ztP hp)
 ·exact .inr ⟨b,hb,ztP hp⟩
theorem RW.app{h:List Nd}{base:Nat}{C D:List Nat}{x:Int}{w:Wd}(hr:RW (phi h base C) h x w):RW (phi h base (C++D)) h x w:=by
 cases w with
 |ad a=>exact Rf.app hr
 |mk k b=>exact hr
variable {φ:Nat->Option Nat}
theorem At.congr{ws ws':List Int}(hw:∀ j,p<=j->j<p+sz nd->ws'[j]?=ws[j]?)(ha:At ws φ h p nd):At ws' φ h p nd:=by
 have hp:=zhd nd;rcases ha with ⟨b,p',h1,h2,h3⟩|⟨h1,h2,h3,h4⟩
 ·exact .inl ⟨b,p',h1,h2,by rw[hw p (zyN _) (by omega)];exact h3⟩
 ·refine .inr ⟨h1,by rw[hw p (zyN _) (by omega)];exact h2,fun v hv=>?_,fun i f hf=>?_⟩
  ·rw[hw (p+1) (by omega) (by subst hv;simp[sz])];exact h3 v hv
  ·have hl:=(zyL.1 hf).1;have hs:=zep nd;obtain ⟨x,hx,hr⟩:=h4 i f hf;exact ⟨x,by rw[hw (p+1+i) (by omega) (by omega)];exact hx,hr⟩
structure Old (h:List Nd) (φ:Nat->Option Nat) (cq fr0 half n:Nat):Prop where
 nod:∀ a p,φ a=some p->∃ nd,h[a]?=some nd/\cq<=p/\p+sz nd<=fr0
 dis:∀ a a' p p' nd nd',φ a=some p->φ a'=some p'->h[a]?=some nd->h[a']?=some nd'->a≠a'->p+sz nd<=p'\/p'+sz nd'<=p
 ok:∀ (a:Nat) (nd:Nd),h[a]?=some nd->zo6 nd
 fw:∀ (a b:Nat),h[a]?=some (.fwd b)->∃ nd,h[b]?=some nd/\zaV nd=false
 rm:fr0+n<=cq+half
 lf:cq<=fr0
structure GI (P:Nat->Prop) (h:List Nd) (φ:Nat->Option Nat) (st:List Wd) (cq au half t:Nat) (s:Sto) (C:List Nat) (bY fh:Nat):Prop where
 lw:s.low=au
 hf:s.half=half
 tp:s.top=t
 hv:(cq=0/\au=half)\/(cq=half/\au=0)
 len:2*half<=s.ws.length
 wl:s.ws.length<=1000000
 fr:s.free=pos h au C C.length
 tt:t+st.length=au+half
 nd:C.Nodup
 cm:∀ c∈C,∃ p n,φ c=some p/\h[c]?=some n/\zaV n=false
 old:∀ a p,φ a=some p->a ∉ C->∃ n,h[a]?=some n/\At s.ws φ h p n
 new:∀ (i c:Nat),C[i]?=some c->∃ p n,φ c=some p/\h[c]?=some n/\s.ws[p]?=some (Hd 5 (pos h au C i) 0)/\s.ws[pos h au C i]?=some (hdr n)/\∀ v,n=.num v->s.ws[pos h au C i+1]?=some v
 fld:∀ (i c:Nat) (n:Nd) (j f:Nat),C[i]?=some c->h[c]?=some n->(zdd n)[j]?=some f->∃ x,s.ws[pos h au C i+1+j]?=some x/\if pos h au C i+1+j<fh then Rf (phi h au C) h x f else Rf φ h x f
 stk:∀ (i:Nat) (w:Wd),st[i]?=some w->∃ x,s.ws[au+half-1-i]?=some x/\if au+half-1-i<bY then RW (phi h au C) h x w else RW φ h x w
 lm:fh<=s.free
 pc:∀ c∈C,P c
theorem zbB{n:Nd}(hn:h[a]?=some n):zkL h a=sz n:=by unfold zkL;rw[hn]
theorem GI.room{P:Nat->Prop}{st:List Wd}{cq fr0 au half t:Nat}{s:Sto}{bY fh:Nat}(E:Old h φ cq fr0 half st.length)(G:GI P h φ st cq au half t s C bY fh)(hD:D.Nodup)(hm:∀ c∈D,∃ p n,φ c=some p/\h[c]?=some n/\zaV n=false):au+(D.map (zkL h)).sum<=t:=by
 have h1:=ztZ cq fr0 (D.map fun c=>((φ c).getD 0,zkL h c)) (fun x hx=>by
  obtain ⟨c,hc,rfl⟩:=zz1.1 hx;obtain ⟨p,n,e1,e2,_⟩:=hm c hc;obtain ⟨n',e3,e4,e5⟩:=E.nod c p e1;rw[e2]at e3;cases e3;simp only[e1,zAs,zbB e2];exact ⟨e4,e5⟩) (by
  rw[List.pairwise_map];refine List.Pairwise.imp_of_mem (fun {a b} ha hb aH=>?_) hD;obtain ⟨p,n,e1,e2,_⟩:=hm a ha;obtain ⟨p',n',e3,e4,_⟩:=hm b hb;simp only[e1,e3,zAs,zbB e2,zbB e4];exact E.dis a b p p' n n' e1 e3 e2 e4 aH)
 rw[List.map_map]at h1;have h2:(Prod.snd ∘ fun c=>((φ c).getD 0,zkL h c))=zkL h:=rfl;rw[h2]at h1;have:=E.rm;have:=E.lf;have:=G.tt;rcases G.hv with ⟨a,b⟩|⟨a,b⟩ <;> omega
theorem zja{P:Nat->Prop}{st:List Wd}{cq fr0 au half t:Nat}{s:Sto}{bY fh:Nat}(E:Old h φ cq fr0 half st.length)(G:GI P h φ st cq au half t s C bY fh){b a0:Nat}{n:Nd}(hb:φ b=some p)(hn:h[b]?=some n)(hf:zaV n=false)(hP:P b)(h0:s.ws[a0]?=some x)(cX:0<=x)(ee:x<9223372036854775808)(hq:(if x%16=4 then (x/65536).toNat else a0)=p):
  ∃ r s' D,s.zgR a0=some (r,s')/\GI P h φ st cq au half t s' (C++D) bY fh/\phi h au (C++D) b=some r/\s'.ws.length=s.ws.length:=by
 unfold Sto.zgR;rw[h0];simp only;rw[if_neg (by omega),hq];by_cases hm:b∈C
 ·obtain ⟨i,hi,GF⟩:=List.getElem_of_mem hm;have lg:C[C.idxOf b]?=some b:=by rw[zyM (zzF hm),List.getElem_idxOf]
  obtain ⟨p',n',e1,e2,e3,e4,e5⟩:=G.new _ b lg;rw[hb]at e1;cases e1;rw[e3];have hr:0<=Hd 5 (pos h au C (C.idxOf b)) 0/\Hd 5 (pos h au C (C.idxOf b)) 0<9223372036854775808:=by
   have h1:pos h au C (C.idxOf b)<=pos h au C C.length:=zfC (zAk (zzF hm));have h2:=G.room E G.nd G.cm;have h3:pos h au C C.length=au+(C.map (zkL h)).sum:=by unfold pos;rw[zz7]
   have h4:=G.tt;have h5:=G.wl;have h6:=G.len;unfold Hd;rcases G.hv with ⟨a,b⟩|⟨a,b⟩ <;> omega
  have EF:Hd 5 (pos h au C (C.idxOf b)) 0%16=5:=zbx (by omega);have dK:Hd 5 (pos h au C (C.idxOf b)) 0/65536=(pos h au C (C.idxOf b):Nat):=zdE (by omega) (by omega);simp only;rw[if_neg (by omega),if_pos EF,dK,zy2];refine ⟨pos h au C (C.idxOf b),s,[],rfl,by rw[zzS];exact G,?_,rfl⟩;rw[zzS];unfold phi;rw[if_pos hm]
 ·obtain ⟨n',e1,e2⟩:=G.old b p hb hm;rw[hn]at e1;cases e1;have bU:=E.ok b n hn;have aV:AtC s.ws (Rf φ h) p n:=by
   rcases e2 with ⟨b',p',h1,_⟩|⟨_,h2⟩
   ·rw[h1]at hf;simp[zaV]at hf
   ·exact h2
  obtain ⟨c1,c2,c3⟩:=aV;obtain ⟨r1,r2⟩:=zde bU;obtain ⟨k1,k2⟩:=zmn hf;have xl:=zlr bU hf;obtain ⟨n',e3,e4,e5⟩:=E.nod b p hb;rw[hn]at e3;cases e3;have lY:∀ c∈C++[b],∃ p n,φ c=some p/\h[c]?=some n/\zaV n=false:=by
   intro c hc;rcases zzi.1 hc with hc|hc
   ·exact G.cm c hc
   ·rw[zze.1 hc];exact ⟨p,n,hb,hn,hf⟩
  have eZ:(C++[b]).Nodup:=by
   rw[List.nodup_append];exact ⟨G.nd,by simp,fun x hx y hy=>by rw[zze.1 hy];exact fun e=>hm (e ▸ hx)⟩
  have ew:=G.room E eZ lY;have ak:s.free=au+(C.map (zkL h)).sum:=by rw[G.fr];unfold pos;rw[zz7]
  rw[zz3,zz5]at ew;simp only[zza,List.map_nil,zzd,List.sum_nil,zbB hn]at ew;have mi:=G.tt;have hlen:=G.len;have eE:=G.wl;have AL:=E.rm;have eB:1<=sz n:=zhd n;have sF:au<=s.free:=by omega
  have iY:s.free+sz n<=t:=by omega
  have An:p+sz n<=cq+half:=by omega
  have x6:p+sz n<=s.free\/au+half<=p:=by rcases G.hv with ⟨a,b⟩|⟨a,b⟩ <;> omega
  have GN:au+half<=s.ws.length:=by rcases G.hv with ⟨a,b⟩|⟨a,b⟩ <;> omega
  have Fk:cq+half<=s.ws.length:=by rcases G.hv with ⟨a,b⟩|⟨a,b⟩ <;> omega
  rw[c1];simp only;rw[if_neg (by omega),if_neg k2,if_pos ⟨by omega,by omega,by omega⟩];obtain ⟨ws',po⟩:∃ ws',ws'=(Go.splice (s.ws.set s.free (hdr n)) (s.free+1) ((s.ws.drop (p+1)).take (behind (hdr n)))).set p (Hd 5 s.free 0):=⟨_,rfl⟩;have aN:((s.ws.drop (p+1)).take (behind (hdr n))).length=behind (hdr n):=by rw[zzf,zzu];omega
  have aY:∀ j,ws'[j]?=if j=p then some (Hd 5 s.free 0) else if j=s.free then some (hdr n) else if s.free<j/\j<s.free+sz n then s.ws[p+(j-s.free)]? else s.ws[j]?:=by
   intro j;have aK:(Go.splice (s.ws.set s.free (hdr n)) (s.free+1) ((s.ws.drop (p+1)).take (behind (hdr n)))).length=s.ws.length:=by rw[zzM _ _ _ (by rw[zy6,aN];omega),zy6]
   rw[po,zyV,aK];by_cases hj:j=p
   ·subst hj;rw[if_pos rfl,if_pos (by omega),if_pos rfl]
   ·rw[if_neg (fun e=>hj e.symm),if_neg hj,zbu _ _ _ _ (by rw[zy6,aN];omega),aN];by_cases lh:j=s.free
    ·subst lh;rw[if_pos rfl,if_pos (by omega),zyV,if_pos rfl,if_pos (by omega)]
    ·have cS:(s.ws.set s.free (hdr n))[j]?=s.ws[j]?:=by rw[zyV,if_neg (fun e=>lh e.symm)]
     rw[if_neg lh];by_cases h3:s.free<j/\j<s.free+sz n
     ·rw[if_pos h3,if_neg (by omega),if_pos (by omega),zzy,if_pos (by omega),zzx];congr 1;omega
     ·rw[if_neg h3];by_cases h4:j<s.free+1
      ·rw[if_pos h4,cS]
      ·rw[if_neg h4,if_neg (by omega),cS]
  have gK:pos h au (C++[b]) C.length=s.free:=by rw[zjB (zyN _),G.fr]
  have ll:(C++[b])[C.length]?=some b:=by simp
  have E4:pos h au (C++[b]) (C.length+1)=s.free+sz n:=by rw[ziS ll,gK,zbB hn]
  have yh:ws'.length=s.ws.length:=by
   rw[po,zy6,zzM _ _ _ (by rw[zy6,aN];omega),zy6]
  have dC:∀ j,j≠p->(j<s.free\/s.free+sz n<=j)->ws'[j]?=s.ws[j]?:=by
   intro j h1 h2;rw[aY,if_neg h1,if_neg (by omega),if_neg (by omega)]
  have bp:∀ i c,C[i]?=some c->i<C.length/\pos h au C i+zkL h c<=s.free/\au<=pos h au C i/\pos h au (C++[b]) i=pos h au C i:=by
   intro i c hc;have br:=(zyL.1 hc).1;refine ⟨br,by rw[G.fr];exact zii hc br,by unfold pos;omega,zjB (zAk br)⟩
  have gU:∀ j,au<=j->j<au+half->j≠p:=by
   intro j h1 h2 e;rcases x6 with h3|h3
   ·rcases G.hv with ⟨a,b⟩|⟨a,b⟩ <;> omega
   ·omega
  have hget?:∀ (i c:Nat),(C++[b])[i]?=some c->(C[i]?=some c)\/(i=C.length/\c=b):=by
   intro i c hc;rw[zzj]at hc;split at hc
   ·exact .inl hc
   ·next nO=>
    have:=(zyL.1 hc).1;simp at this;have h1:i-C.length=0:=by omega
    rw[h1]at hc;simp at hc;exact .inr ⟨by omega,hc.symm⟩
  refine ⟨s.free,{ s with free:=s.free+1+behind (hdr n),ws:=ws' },[b],by rw[po],⟨G.lw,G.hf,G.tp,G.hv,by simp only;omega,by simp only;omega,?_,G.tt,eZ,lY,?_,?_,?_,?_,?_,?_⟩,?_,yh⟩
  ·simp only[zyT,zy0];rw[E4];omega
  ·intro a q hq ha;have gm:a ∉ C:=fun e=>ha (by simp[e])
   have D8:a≠b:=fun e=>ha (by simp[e])
   obtain ⟨na,g1,g2⟩:=G.old a q hq gm;refine ⟨na,g1,g2.congr (fun j j1 j2=>?_)⟩;obtain ⟨GS,g3,g4,g5⟩:=E.nod a q hq;rw[g1]at g3;cases g3;have hd:=E.dis a b q p na n hq hb g1 hn D8;refine dC j (by omega) ?_;rcases G.hv with ⟨a,b⟩|⟨a,b⟩ <;> omega
  ·intro i c hc;rcases hget? i c hc with hc|⟨rfl,rfl⟩
   ·obtain ⟨i1,i2,i3,i4⟩:=bp i c hc;obtain ⟨q,m,g1,g2,g3,g4,g5⟩:=G.new i c hc;rw[zbB g2]at i2;have uQ:=zhd m;rw[i4];obtain ⟨m',g6,g7,g8⟩:=E.nod c q g1;rw[g2]at g6;cases g6;have jl:c≠b:=fun e=>hm (e ▸ zy1 hc)
    have hd:=E.dis c b q p m n g1 hb g2 hn jl;refine ⟨q,m,g1,g2,?_,?_,fun v hv=>?_⟩
    ·rw[dC q (by omega) (by rcases G.hv with ⟨a,b⟩|⟨a,b⟩ <;> omega)];exact g3
    ·rw[dC _ (gU _ i3 (by omega)) (by omega)];exact g4
    ·have:sz m=2:=by rw[hv];rfl
     rw[dC _ (gU _ (by omega) (by omega)) (by omega)];exact g5 v hv
   ·rw[gK];refine ⟨p,n,hb,hn,?_,?_,fun v hv=>?_⟩
    ·rw[aY,if_pos rfl]
    ·rw[aY,if_neg (gU _ sF (by omega)),if_pos rfl]
    ·have aI:sz n=2:=by rw[hv];rfl
     rw[aY,if_neg (gU _ (by omega) (by omega)),if_neg (by omega),if_pos (by omega),show p+(s.free+1-s.free)=p+1 by omega];exact c2 v hv
  ·intro i c m j f hc fO dr;have gT:=(zyL.1 dr).1;have Fa:=zep m;rcases hget? i c hc with hc|⟨rfl,rfl⟩
   ·obtain ⟨i1,i2,i3,i4⟩:=bp i c hc;rw[zbB fO]at i2;rw[i4];obtain ⟨x,g1,g2⟩:=G.fld i c m j f hc fO dr;refine ⟨x,by rw[dC _ (gU _ (by omega) (by omega)) (by omega)];exact g1,?_⟩;split at g2
    ·next aj=>rw[if_pos aj];exact g2.app
    ·next aj=>rw[if_neg aj];exact g2
   ·rw[hn]at fO;cases fO;rw[gK];have GK:=G.lm;obtain ⟨x,g1,g2⟩:=c3 j f dr;refine ⟨x,?_,by rw[if_neg (by omega)];exact g2⟩;rw[aY,if_neg (gU _ (by omega) (by omega)),if_neg (by omega),if_pos (by omega),show p+(s.free+1+j-s.free)=p+1+j by omega];exact g1
  ·intro i w hw;have br:=(zyL.1 hw).1;obtain ⟨x,g1,g2⟩:=G.stk i w hw;refine ⟨x,by rw[dC _ (gU _ (by omega) (by omega)) (by omega)];exact g1,?_⟩;split at g2
   ·next aj=>rw[if_pos aj];exact g2.app
   ·next aj=>rw[if_neg aj];exact g2
  ·have:=G.lm;simp only;omega
  ·intro c hc;rcases zzi.1 hc with hc|hc
   ·exact G.pc c hc
   ·rw[zze.1 hc];exact hP
  ·unfold phi;rw[if_pos (by simp),List.idxOf_append,if_neg hm];simp[gK]
variable {P:Nat->Prop} {h:List Nd} {φ:Nat->Option Nat} {st:List Wd} {cq fr0 au half t:Nat} {s:Sto} {C:List Nat} {bY fh:Nat}
theorem zle(E:Old h φ cq fr0 half st.length)(G:GI P h φ st cq au half t s C bY fh){b:Nat}{n:Nd}(hb:φ b=some p)(hn:h[b]?=some n)(hf:zaV n=false):∃ x,s.ws[p]?=some x/\0<=x/\x<9223372036854775808/\x%16≠4:=by
 by_cases hm:b∈C
 ·have lg:C[C.idxOf b]?=some b:=by rw[zyM (zzF hm),List.getElem_idxOf]
  obtain ⟨p',n',e1,e2,e3,_⟩:=G.new _ b lg;rw[hb]at e1;cases e1;have h1:pos h au C (C.idxOf b)<=pos h au C C.length:=zfC (zAk (zzF hm));have h2:=G.room E G.nd G.cm;have h3:pos h au C C.length=au+(C.map (zkL h)).sum:=by unfold pos;rw[zz7]
  have h4:=G.tt;have h5:=G.wl;have h6:=G.len;refine ⟨_,e3,?_,?_,?_⟩
  ·unfold Hd;omega
  ·unfold Hd;rcases G.hv with ⟨a,b⟩|⟨a,b⟩ <;> omega
  ·rw[zbx (by omega)];omega
 ·obtain ⟨n',e1,e2⟩:=G.old b p hb hm;rw[hn]at e1;cases e1;rcases e2 with ⟨b',p',h1,_⟩|⟨_,h2,_⟩
  ·rw[h1]at hf;simp[zaV]at hf
  ·obtain ⟨r1,r2⟩:=zde (E.ok b n hn);exact ⟨_,h2,r1,r2,(zmn hf).1⟩
theorem zdc{n:Nd}(hn:h[a]?=some n)(hf:zaV n=false):can h a=a:=by
 unfold can;rw[hn];cases n <;> first|rfl|simp[zaV]at hf
theorem zgl{b:Nat}(hn:h[a]?=some (.fwd b)):can h a=b:=by
 unfold can;rw[hn]
theorem zmc(E:Old h φ cq fr0 half st.length)(G:GI P h φ st cq au half t s C bY fh)(hr:Rf φ h x a)(hP:P (can h a)):
  0<=x/\∃ r s' D,s.zgR x.toNat=some (r,s')/\GI P h φ st cq au half t s' (C++D) bY fh/\Rf (phi h au (C++D)) h (r:Int) a/\s'.ws.length=s.ws.length:=by
 obtain ⟨p,rfl,hp⟩:=hr;refine ⟨by omega,?_⟩;rw[zy2];rcases hp with hp|⟨b,hb,hp⟩
 ·obtain ⟨n,hn,_,_⟩:=E.nod a p hp;cases gr:zaV n with
  |false=>
   rw[zdc hn gr]at hP;obtain ⟨x,x1,x2,x3,x4⟩:=zle E G hp hn gr;obtain ⟨r,s',D,c1,c2,c3,c4⟩:=zja E G hp hn gr hP x1 x2 x3 (by rw[if_neg x4]);exact ⟨r,s',D,c1,c2,⟨r,rfl,.inl c3⟩,c4⟩
  |true=>
   cases n with
   |fwd b=>
    rw[zgl hn]at hP;obtain ⟨nb,iJ,jZ⟩:=E.fw a b hn;have D9:a ∉ C:=fun hm=>by
     obtain ⟨_,n',_,e2,e3⟩:=G.cm a hm;rw[hn]at e2;cases e2;simp[zaV]at e3
    obtain ⟨n',e1,e2⟩:=G.old a p hp D9;rw[hn]at e1;cases e1;rcases e2 with ⟨b',p',h1,h2,h3⟩|⟨h1,_⟩
    ·cases h1;obtain ⟨_,_,sN,fB⟩:=E.nod b p' h2;have AL:=E.rm;have hlen:=G.len;have eE:=G.wl;have gK:p'<=1000000:=by rcases G.hv with ⟨a,b⟩|⟨a,b⟩ <;> omega
     have hk:Hd 4 p' 0%16=4:=zbx (by omega);have hw:Hd 4 p' 0/65536=(p':Int):=zdE (by omega) (by omega);obtain ⟨r,s',D,c1,c2,c3,c4⟩:=zja E G h2 iJ jZ hP h3 (by unfold Hd;omega) (by unfold Hd;omega) (by rw[if_pos hk,hw,zy2]);exact ⟨r,s',D,c1,c2,⟨r,rfl,.inr ⟨b,hn,c3⟩⟩,c4⟩
    ·simp[zaV]at h1
   |_=>simp[zaV]at gr
 ·obtain ⟨nb,iJ,jZ⟩:=E.fw a b hb;rw[zgl hb]at hP;obtain ⟨x,x1,x2,x3,x4⟩:=zle E G hp iJ jZ;obtain ⟨r,s',D,c1,c2,c3,c4⟩:=zja E G hp iJ jZ hP x1 x2 x3 (by rw[if_neg x4]);exact ⟨r,s',D,c1,c2,⟨r,rfl,.inr ⟨b,hb,c3⟩⟩,c4⟩
theorem GI.zeP(E:Old h φ cq fr0 half st.length)(G:GI P h φ st cq au half t s C bY fh):au<=s.free/\s.free<=t/\au+half<=s.ws.length:=by
 have h2:=G.room E G.nd G.cm;have h3:pos h au C C.length=au+(C.map (zkL h)).sum:=by unfold pos;rw[zz7]
 have:=G.fr;have:=G.len;refine ⟨by omega,by omega,?_⟩;rcases G.hv with ⟨a,b⟩|⟨a,b⟩ <;> omega
theorem GI.zlI(G:GI P h φ st cq au half t s C bY fh){c:Nat}{n:Nd}(hc:C[i]?=some c)(hn:h[c]?=some n):au<=pos h au C i/\pos h au C i+sz n<=s.free:=by
 refine ⟨by unfold pos;omega,?_⟩;rw[<-zbB hn,G.fr];exact zii hc (zyL.1 hc).1
theorem GI.zqJ(E:Old h φ cq fr0 half st.length)(G:GI P h φ st cq au half t s C bY fh){n:Nd}(hp:φ a=some p)(hn:h[a]?=some n):∀ j,p<=j->j<p+sz n->¬ (au<=j/\j<au+half):=by
 intro j j1 j2 j3;obtain ⟨n',e1,e2,e3⟩:=E.nod a p hp;rw[hn]at e1;cases e1;have:=E.rm;rcases G.hv with ⟨a,b⟩|⟨a,b⟩ <;> omega
theorem GI.setS(E:Old h φ cq fr0 half st.length){o:Nat}{w:Wd}{r:Int}(G:GI P h φ st cq au half t s C o fh)(hw:st[i]?=some w)(ho:o=au+half-1-i)(hr:RW (phi h au C) h r w):GI P h φ st cq au half t { s with ws:=s.ws.set o r } C (o+1) fh:=by
 obtain ⟨f1,f2,f3⟩:=G.zeP E;have br:=(zyL.1 hw).1;have mi:=G.tt;have AL:=E.rm;have bS:∀ j,j≠o->(s.ws.set o r)[j]?=s.ws[j]?:=fun j hj=>by rw[zyV,if_neg (fun e=>hj e.symm)]
 refine ⟨G.lw,G.hf,G.tp,G.hv,by simp only[zy6];exact G.len,by simp only[zy6];exact G.wl,G.fr,G.tt,G.nd,G.cm,?_,?_,?_,?_,G.lm,G.pc⟩
 ·intro a p hp ha;obtain ⟨n,e1,e2⟩:=G.old a p hp ha;refine ⟨n,e1,e2.congr (fun j j1 j2=>bS j (fun e=>?_))⟩;exact G.zqJ E hp e1 j j1 j2 (by omega)
 ·intro k c hc;obtain ⟨p,n,e1,e2,e3,e4,e5⟩:=G.new k c hc;obtain ⟨p1,p2⟩:=G.zlI hc e2;have hs:=zhd n;refine ⟨p,n,e1,e2,?_,?_,fun v hv=>?_⟩
  ·rw[bS p (fun e=>G.zqJ E e1 e2 p (zyN _) (by omega) (by omega))];exact e3
  ·rw[bS _ (by omega)];exact e4
  ·have:sz n=2:=by rw[hv];rfl
   rw[bS _ (by omega)];exact e5 v hv
 ·intro k c n j f hc hn hf;obtain ⟨p1,p2⟩:=G.zlI hc hn;have gT:=(zyL.1 hf).1;have hs:=zep n;obtain ⟨x,g1,g2⟩:=G.fld k c n j f hc hn hf;exact ⟨x,by rw[bS _ (by omega)];exact g1,g2⟩
 ·intro k w' fY;have nS:=(zyL.1 fY).1;obtain ⟨x,g1,g2⟩:=G.stk k w' fY;by_cases hk:k=i
  ·subst hk;rw[hw]at fY;cases fY;refine ⟨r,?_,by rw[if_pos (by omega)];exact hr⟩;rw[<-ho];simp only;rw[zyV,if_pos rfl,if_pos (by omega)]
  ·refine ⟨x,by simp only;rw[bS _ (by omega)];exact g1,?_⟩;by_cases aj:au+half-1-k<o
   ·rw[if_pos aj]at g2;rw[if_pos (by omega)];exact g2
   ·rw[if_neg aj]at g2;rw[if_neg (by omega)];exact g2
theorem zqR{α:Type}{l:List α}{x:α}(hx:l[i]?=some x):l.set i x=l:=by
 apply List.ext_getElem?;intro j;rw[zyV];split
 ·next e=>
  subst e;rw[if_pos (zyL.1 hx).1,hx]
 ·rfl
theorem zgk(E:Old h φ cq fr0 half st.length)(hP:∀ (i a:Nat),st[i]?=some (.ad a)->P (can h a)):∀ (k o:Nat) (s:Sto) (C:List Nat),GI P h φ st cq au half t s C o fh->o+k=au+half->t<=o->∃ s' D,s.zfI o k=some s'/\GI P h φ st cq au half t s' (C++D) (au+half) fh
 |0,o,s,C,G,ho,_=>⟨s,[],rfl,by rw[zzS,<-ho];exact G⟩
 |k+1,o,s,C,G,ho,hto=>by
  have mi:=G.tt;obtain ⟨w,hw⟩:∃ w,st[au+half-1-o]?=some w:=⟨_,zyM (by omega)⟩;obtain ⟨x,g1,g2⟩:=G.stk _ w hw;have AB:au+half-1-(au+half-1-o)=o:=by omega
  rw[AB,if_neg (by omega)]at g2;rw[AB]at g1;rw[Sto.zfI,g1];simp only;cases w with
  |mk m b=>
   have hx:x=Mk m b:=g2;have dV:x<0:=by rw[hx];unfold Mk;omega
   rw[if_pos dV];have G2:=G.setS E hw (by omega) (r:=x) hx;rw[zqR g1]at G2;exact zgk E hP k (o+1) s C G2 (by omega) (by omega)
  |ad a=>
   obtain ⟨cX,r,s1,D,c1,c2,c3,c4⟩:=zmc E G g2 (hP _ a hw);rw[if_neg (by omega),c1];simp only;have G2:=c2.setS E hw (by omega) (r:=r) c3;obtain ⟨s',D',d1,d2⟩:=zgk E hP k (o+1) _ (C++D) G2 (by omega) (by omega);exact ⟨s',D++D',d1,by rw[<-zzk];exact d2⟩
theorem znv(E:Old h φ cq fr0 half st.length):∀ (fc:List Int) (fns:List Nat) (s:Sto) (C:List Nat),GI P h φ st cq au half t s C bY fh->fc.length=fns.length->(∀ (i a:Nat),fns[i]?=some a->∃ x,fc[i]?=some x/\Rf φ h x a)->(∀ a∈fns,P (can h a)) ->
  ∃ kd s' D,s.zdP fc=some (kd,s')/\GI P h φ st cq au half t s' (C++D) bY fh/\kd.length=fns.length/\∀ (i a:Nat),fns[i]?=some a->∃ x,kd[i]?=some x/\Rf (phi h au (C++D)) h x a
 |[],fns,s,C,G,hl,_,_=>⟨[],s,[],rfl,by rw[zzS];exact G,hl,fun i a ha=>by
   have:fns=[]:=zzn.1 hl.symm;rw[this]at ha;simp at ha⟩
 |x::fc,[],s,C,G,hl,_,_=>by simp at hl
 |x::fc,a::fns,s,C,G,hl,hr,hP=>by
  obtain ⟨x',e1,e2⟩:=hr 0 a rfl;simp at e1;subst e1;obtain ⟨cX,r,s1,D,c1,c2,c3,c4⟩:=zmc E G e2 (hP a (by simp));rw[Sto.zdP,if_neg (by omega),c1];simp only;obtain ⟨kd,s',D',d1,d2,d3,d4⟩:=znv E fc fns s1 (C++D) c2 (by simpa using hl) (fun i b hb=>by
   obtain ⟨y,y1,y2⟩:=hr (i+1) b (by simpa using hb);exact ⟨y,by simpa using y1,y2⟩) (fun b hb=>hP b (by simp[hb]))
  rw[d1];refine ⟨(r:Int)::kd,s',D++D',rfl,by rw[<-zzk];exact d2,by simp[d3],fun i b hb=>?_⟩;rw[<-zzk];cases i with
  |zero=>
   simp at hb;subst hb;exact ⟨r,rfl,c3.app⟩
  |succ i=>
   obtain ⟨y,y1,y2⟩:=d4 i b (by simpa using hb);exact ⟨y,by simpa using y1,y2⟩
end Ab
end Go.Proofs.YtgahgkddaljmkaaGreatDoor
