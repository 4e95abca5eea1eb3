/- Wel1 .. Scope11 -/
import Derived.Test.YtgahgkddaljmkaaGreatDoorT9
set_option maxRecDepth 100000
set_option maxHeartbeats 4000000
namespace Go.Proofs.YtgahgkddaljmkaaGreatDoor
open Tryz
namespace Th
def WB (b:Nat) (e:Ex):Prop:=∃ m,Cp.Dp m e/\Cp.wt m e<=b
def WBs (b:Nat) (l:List Ex):Prop:=∃ m,(∀ p∈l,Cp.Dp m p)/\(l.map (Cp.wt m)).sum<=b
variable {b m k:Nat}
theorem WBs.up{l:List Ex}(h1:∀ p∈l,Cp.Dp m p)(h2:(l.map (Cp.wt m)).sum<=b)(hk:m<=k):(∀ p∈l,Cp.Dp k p)/\(l.map (Cp.wt k)).sum<=b:=
 ⟨fun p hp=>(h1 p hp).le hk,by rw[zAf (fun p hp=>Cp.zk9 (h1 p hp) hk)];exact h2⟩
theorem WBs.nil:WBs 0 []:=⟨0,by simp,by simp⟩
variable {a:Nat}{e:Ex}
theorem WBs.snoc{l:List Ex}(h:WBs a l)(k:WB b e):WBs (a+b) (l++[e]):=by
 obtain ⟨m,h1,h2⟩:=h;obtain ⟨n,k1,k2⟩:=k;obtain ⟨g1,g2⟩:=WBs.up h1 h2 (zz0 m n);have k3:=Cp.zk9 k1 (zAc n m);refine ⟨m+n,fun p hp=>?_,?_⟩
 ·rcases zzi.mp hp with hp|hp
  ·exact g1 p hp
  ·rw[zze.mp hp];exact k1.le (by omega)
 ·rw[zz3,zz5];simp;omega
theorem WB.of(hw:Cp.zF0 e)(hk:∀ k∈e.kids,Cp.Dp m k)(hb:1+e.names.length+(e.zao.map fun a=>1+a.2.length).sum+(e.kids.map (Cp.wt m)).sum<=b):WB b e:=⟨m+1,⟨hw,hk⟩,by rw[Cp.wt];exact hb⟩
variable {n:Nat}
theorem zyF(h:n<=999999999):WB 1 (mkNum n):=WB.of (m:=0) ⟨by simp[mkNum],by simp[mkNum],h,by simp[mkNum],by simp[mkNum],by simp[mkNum],by simp[mkNum],by simp[mkNum],by simp[mkNum],by simp[mkNum],by simp[mkNum],by simp[mkNum],by simp[mkNum]⟩ (by simp[mkNum]) (by simp[mkNum])
theorem zx3{t:Tok}(h:t.s≠[]):WB 1 (zbW t):=WB.of (m:=0) ⟨by simp[zbW],by simp[zbW],by simp[zbW],by simp[zbW],by simp[zbW],by simp[zbW],by simp[zbW],fun _=>h,by simp[zbW],by simp[zbW],by simp[zbW],by simp[zbW],by simp[zbW]⟩ (by simp[zbW]) (by simp[zbW])
theorem zx2{t:Nat}(h1:t<=99)(h2:a<=9):WB 1 (zcU t a):=WB.of (m:=0) ⟨by simp[zcU],by simp[zcU],by simp[zcU],h1,h2,by simp[zcU],by simp[zcU],by simp[zcU],by simp[zcU],by simp[zcU],by simp[zcU],by simp[zcU],by simp[zcU]⟩ (by simp[zcU]) (by simp[zcU])
theorem zyD{l:List Tok}(hl:l≠[])(hs:∀ t∈l,t.s≠[])(h:WB b e):WB (b+l.length+1) (mkFun l e):=by
 obtain ⟨m,h1,h2⟩:=h;exact WB.of (m:=m) ⟨by simp[mkFun],by simp[mkFun],by simp[mkFun],by simp[mkFun],by simp[mkFun],hs,by simp[mkFun],by simp[mkFun],fun _=>⟨hl,e,rfl⟩,by simp[mkFun],by simp[mkFun],by simp[mkFun],by simp[mkFun]⟩ (by simp[mkFun,h1]) (by simp[mkFun];omega)
variable {f:Ex}
theorem zw1(h:WB a e)(k:WB b f):∃ m,Cp.Dp m e/\Cp.Dp m f/\Cp.wt m e<=a/\Cp.wt m f<=b:=by
 obtain ⟨m,h1,h2⟩:=h;obtain ⟨n,k1,k2⟩:=k;exact ⟨m+n,h1.le (by omega),k1.le (by omega),by rw[Cp.zk9 h1 (by omega)];exact h2,by rw[Cp.zk9 k1 (by omega)];exact k2⟩
theorem zx0(h:WB a e)(k:WB b f):WB (a+b+1) (zch e f):=by
 obtain ⟨m,h1,h2,h3,h4⟩:=zw1 h k;exact WB.of (m:=m) ⟨by simp[zch],by simp[zch],by simp[zch],by simp[zch],by simp[zch],by simp[zch],by simp[zch],by simp[zch],by simp[zch],fun _=>⟨e,f,rfl⟩,by simp[zch],by simp[zch],by simp[zch]⟩ (by simp[zch,h1,h2]) (by simp[zch];omega)
theorem zyG{t:Tok}(ht:t.s∈six)(h:WB a e)(k:WB b f):WB (a+b+1) (ziR t e f):=by
 obtain ⟨m,h1,h2,h3,h4⟩:=zw1 h k;exact WB.of (m:=m) ⟨by simp[ziR],by simp[ziR],by simp[ziR],by simp[ziR],by simp[ziR],by simp[ziR],by simp[ziR],by simp[ziR],by simp[ziR],fun _=>⟨e,f,rfl⟩,fun _=>ht,by simp[ziR],by simp[ziR]⟩ (by simp[ziR,h1,h2]) (by simp[ziR];omega)
variable {r:Bool}
theorem zyE{l:List Tok}{parts:List Ex}(hl:l≠[])(hs:∀ t∈l,t.s≠[])(hn:parts.length=l.length)(h:WBs a parts)(k:WB b e):WB (a+b+l.length+1) (mkLet r l parts e):=by
 obtain ⟨m,h1,h2⟩:=h;obtain ⟨n,k1,k2⟩:=k;obtain ⟨g1,g2⟩:=WBs.up h1 h2 (zz0 m n);have k3:=Cp.zk9 k1 (zAc n m);have hk:(mkLet r l parts e).kind=7\/(mkLet r l parts e).kind=8:=by cases r <;> simp[mkLet]
 refine WB.of (m:=m+n) ⟨by omega,by omega,by simp[mkLet],by simp[mkLet],by simp[mkLet],hs,by simp[mkLet],fun h=>by omega,fun h=>by omega,fun h=>by omega,fun h=>by omega,fun _=>⟨hl,e,parts,rfl,hn⟩,fun h=>by omega⟩ (fun p hp=>?_) ?_
 ·rcases zzo.1 hp with rfl|hp
  ·exact k1.le (by omega)
  ·exact g1 p hp
 ·simp only[mkLet,List.map_nil,List.sum_nil,zza,zzd];omega
theorem zx1{l:List (Nat × List Tok)}{ag:List Ex}(hl:l≠[])(hs:∀ x∈l,x.1<=99/\∀ t∈x.2,t.s≠[])(hn:ag.length=l.length)(h:WBs a ag)(k:WB b e):WB (a+b+(l.map fun x=>1+x.2.length).sum+1) (mkCase e l ag):=by
 obtain ⟨m,h1,h2⟩:=h;obtain ⟨n,k1,k2⟩:=k;obtain ⟨g1,g2⟩:=WBs.up h1 h2 (zz0 m n);have k3:=Cp.zk9 k1 (zAc n m);refine WB.of (m:=m+n) ⟨by simp[mkCase],by simp[mkCase],by simp[mkCase],by simp[mkCase],by simp[mkCase],by simp[mkCase],hs,by simp[mkCase],by simp[mkCase],by simp[mkCase],by simp[mkCase],by simp[mkCase],fun _=>⟨hl,e,ag,rfl,hn⟩⟩ (fun p hp=>?_) ?_
 ·rcases zzo.1 hp with rfl|hp
  ·exact k1.le (by omega)
  ·exact g1 p hp
 ·simp only[mkCase,zzm,zza,zzd];omega
def TK2 (st:St):Prop:=∀ t∈st.rest,(t.k=3->val t.s<=999999999)/\(t.k=2->t.s≠[])
theorem TK2.adv{st:St}(h:TK2 st):TK2 st.adv:=fun t ht=>h t (List.mem_of_mem_tail ht)
theorem TK2.fail{st:St}(h:TK2 st):TK2 st.fail:=by
 unfold St.fail;split
 ·intro t ht;simp at ht
 ·exact h
theorem TK2.want{st:St}(s:List UInt8)(h:TK2 st):TK2 (want s st):=by
 unfold Th.want;split
 ·exact h.adv
 ·exact h.fail
theorem TK2.zaL{st:St}(h:TK2 st):TK2 (zaL st).2:=by
 unfold Th.zaL;split
 ·exact h.adv
 ·exact h.fail
theorem TK2.zax{st:St}(h:TK2 st):TK2 (zax st).2:=by
 unfold Th.zax;split
 ·exact fun t ht=>h t ((List.dropWhile_sublist _).subset ht)
 ·exact h
theorem TK2.zaB{st:St}(a b:Nat)(h:TK2 st):TK2 (zaB a b st).2:=by
 unfold Th.zaB;split
 ·exact h.adv
 ·exact h.fail
variable {st:St}
theorem zf9{s:List UInt8}(h:st.is s=true)(hs:s≠[]):st.rest.length=st.adv.rest.length+1:=by
 unfold St.is at h;simp only[zzv,beq_iff_eq]at h;cases hr:st.rest with
 |nil=>exact absurd (by rw[<-h.2];simp[St.hd,hr,znj]) hs
 |cons t r=>simp[St.adv,hr]
theorem zfw(h:st.kind k=true)(hk:k≠0):st.rest.length=st.adv.rest.length+1/\st.hd∈st.rest/\st.hd.k=k:=by
 unfold St.kind at h;simp only[zzv,beq_iff_eq]at h;cases hr:st.rest with
 |nil=>exact absurd (by rw[<-h.2];simp[St.hd,hr,znj]) hk
 |cons t r=>exact ⟨by simp[St.adv,hr],by simp[St.hd,hr],h.2⟩
theorem zb7{s:List UInt8}(h:(want s st).bad=none)(hs:s≠[]):st.rest.length=(want s st).rest.length+1:=by
 unfold want at h ⊢;split at h
 ·next hi=>rw[if_pos hi];exact zf9 hi hs
 ·exact (zhK h).elim
theorem zmw(h:(zaL st).2.bad=none)(ht:TK2 st):st.rest.length=(zaL st).2.rest.length+1/\(zaL st).1.s≠[]:=by
 unfold zaL at h ⊢;split at h
 ·next hi=>
  rw[if_pos hi];obtain ⟨a,b,c⟩:=zfw hi (by decide);exact ⟨a,(ht _ b).2 c⟩
 ·exact (zhK h).elim
theorem zdh(h:(zax st).2.bad=none)(ht:TK2 st):st.rest.length=(zax st).2.rest.length+(zax st).1.length/\∀ t∈(zax st).1,t.s≠[]:=by
 have hb:=zcM _ h;unfold zax;rw[if_pos (by rw[hb];rfl)];refine ⟨?_,fun t hm=>?_⟩
 ·have:=congrArg List.length (List.takeWhile_append_dropWhile (p:=fun t:Tok=>t.k == 2) (l:=st.rest));rw[zyT]at this;simp only;omega
 ·simp only at hm;have h1:=(zAi _).subset hm;have h2:(t.k == 2)=true:=List.all_eq_true.1 (List.all_takeWhile (p:=fun t:Tok=>t.k == 2) (l:=st.rest)) t hm;simp only[beq_iff_eq]at h2;exact (ht t h1).2 h2
theorem zhL(h:(zaB a b st).2.bad=none):st.rest.length=(zaB a b st).2.rest.length+1:=by
 unfold zaB at h ⊢;split at h
 ·next hi=>
  rw[if_pos hi];simp only[zzv]at hi;exact (zfw hi.1.1 (by decide)).1
 ·exact (zhK h).elim
def zkw (st:St) (q:Ex × St):Prop:=TK2 q.2/\(q.2.bad=none->∃ b,b+1+2*q.2.rest.length<=2*st.rest.length/\WB b q.1)
def zo9 (ex:Rd):Prop:=∀ c st q,ex c st=some q->TK2 st->zkw st q
theorem zpC(h:TK2 st):TK2 (zdj st).2/\((zdj st).2.bad=none->(zdj st).2.rest.length<=st.rest.length/\WB 1 (zdj st).1):=by
 refine ⟨TK2.want _ (TK2.zaB _ _ (TK2.want _ (TK2.zaB _ _ h))),fun hb=>?_⟩;have h1:=zb7 (s:=[125]) hb (by decide);have b1:=zaC _ _ hb;have h2:=zhL b1;have b2:=zdX _ _ _ b1;have h3:=zb7 b2 (by decide);have h4:=zhL (zaC _ _ b2);refine ⟨?_,zx2 (zdb _ _ _) (zdb _ _ _)⟩;unfold zdj at *;simp only at *;omega
variable {ex:Rd}{q:Ex × St}
theorem zlB(hx:zo9 ex)(h:zeU ex st=some q)(ht:TK2 st):zkw st q:=by
 unfold zeU at h;split at h
 ·next hi=>
  cases h;obtain ⟨a,b,c⟩:=zfw hi (by decide);exact ⟨ht.adv,fun _=>⟨1,by simp only;omega,zx3 ((ht _ b).2 c)⟩⟩
 ·split at h
  ·next hi=>
   cases h;obtain ⟨a,b,c⟩:=zfw hi (by decide);exact ⟨ht.adv,fun _=>⟨1,by simp only;omega,zyF ((ht _ b).1 c)⟩⟩
  ·split at h
   ·next hi=>
    cases h;have a:=zf9 hi (by decide);obtain ⟨m1,m2⟩:=zpC ht.adv;refine ⟨m1,fun hb=>?_⟩;obtain ⟨n1,n2⟩:=m2 hb;exact ⟨1,by omega,n2⟩
   ·split at h
    ·next hi=>
     simp only[zyQ,zyP]at h;obtain ⟨r,h1,rfl⟩:=h;have a:=zf9 hi (by decide);have m:=hx _ _ _ h1 ht.adv;refine ⟨m.1.want _,fun hb=>?_⟩;have w:=zb7 (s:=[41]) hb (by decide);obtain ⟨b,aA,aw⟩:=m.2 (zaC _ _ hb);exact ⟨b,by simp only at *;omega,aw⟩
    ·cases h;exact ⟨ht.fail,fun hb=>(zhK hb).elim⟩
theorem zjr{ex:Rd}(hx:zo9 ex)(hk:zbD ex):∀ (k:Nat) (e:Ex) (st s0:St) (q:Ex × St),zcV ex k e st=some q->TK2 st->(st.bad=none->∃ b,b+1+2*st.rest.length<=2*s0.rest.length/\WB b e)->zkw s0 q
 |0,_,_,_,_,h,_,_=>by simp[zcV]at h
 |k+1,e,st,s0,q,h,ht,he=>by
  rw[zcV]at h;split at h
  ·simp only[zyQ]at h;obtain ⟨r,h1,h2⟩:=h;have m:=zlB hx h1 ht;refine zjr hx hk k _ _ s0 _ h2 m.1 (fun hb=>?_);obtain ⟨a,a1,a2⟩:=he (zfp hk h1 hb);obtain ⟨b,b1,b2⟩:=m.2 hb;exact ⟨a+b+1,by omega,zx0 a2 b2⟩
  ·cases h;exact ⟨ht,he⟩
theorem zlC(hx:zo9 ex)(hk:zbD ex)(h:zhP ex k st=some q)(ht:TK2 st):zkw st q:=by
 unfold zhP at h;simp only[zyQ]at h;obtain ⟨r,h1,h2⟩:=h;have m:=zlB hx h1 ht;exact zjr hx hk k _ _ _ _ h2 m.1 m.2
theorem zjs{sub:St->Option (Ex × St)}(hs:∀ st q,sub st=some q->TK2 st->zkw st q)(hk:∀ st q,sub st=some q->q.2.bad=none->st.bad=none){a b:List UInt8}(ha:a∈six)(hb:b∈six):
  ∀ (k:Nat) (e:Ex) (st s0:St) (q:Ex × St),zku sub a b k e st=some q->TK2 st->(st.bad=none->∃ b,b+1+2*st.rest.length<=2*s0.rest.length/\WB b e)->zkw s0 q
 |0,_,_,_,_,h,_,_=>by simp[zku]at h
 |k+1,e,st,s0,q,h,ht,he=>by
  rw[zku]at h;split at h
  ·next hi=>
   simp only[zyQ]at h;obtain ⟨r,h1,h2⟩:=h;have m:=hs _ _ h1 ht.adv;simp only[zAy]at hi;have aH:∀ x∈six,x≠[]:=by decide
   have hlen:st.rest.length=st.adv.rest.length+1:=by
    rcases hi with hi|hi
    ·exact zf9 hi (aH _ ha)
    ·exact zf9 hi (aH _ hb)
   refine zjs hs hk ha hb k _ _ s0 _ h2 m.1 (fun aQ=>?_);obtain ⟨c,c1,c2⟩:=he (zbz _ (hk _ _ h1 aQ));obtain ⟨d,d1,d2⟩:=m.2 aQ;refine ⟨c+d+1,by omega,zyG ?_ c2 d2⟩;rcases hi with hi|hi
   ·rw[zeS hi];exact ha
   ·rw[zeS hi];exact hb
  ·cases h;exact ⟨ht,he⟩
theorem zg1(hx:zo9 ex)(hk:zbD ex)(h:zcG ex k st=some q)(ht:TK2 st):zkw st q:=by
 unfold zcG at h;simp only[zyQ]at h;obtain ⟨r,h1,h2⟩:=h;have m:=zlC hx hk h1 ht;exact zjs (fun _ _ a b=>zlC hx hk a b) (fun _ _ a=>zfq hk _ _ _ a) (by decide) (by decide) k _ _ _ _ h2 m.1 m.2
theorem znY(hx:zo9 ex)(hk:zbD ex)(h:zu0 ex k st=some q)(ht:TK2 st):zkw st q:=by
 unfold zu0 at h;simp only[zyQ]at h;obtain ⟨r,h1,h2⟩:=h;have m:=zg1 hx hk h1 ht;exact zjs (fun _ _ a b=>zg1 hx hk a b) (fun _ _ a=>zc4 hk _ _ _ a) (by decide) (by decide) k _ _ _ _ h2 m.1 m.2
theorem zrG(hx:zo9 ex)(hk:zbD ex)(h:zjD ex k st=some q)(ht:TK2 st):zkw st q:=by
 unfold zjD at h;simp only[zyQ]at h;obtain ⟨r,h1,h2⟩:=h;have m:=znY hx hk h1 ht;split at h2
 ·next hi=>
  simp only[zyQ,zyP]at h2;obtain ⟨p,h3,rfl⟩:=h2;have m2:=znY hx hk h3 m.1.adv;simp only[zAy]at hi;have hlen:r.2.rest.length=r.2.adv.rest.length+1:=by
   rcases hi with hi|hi
   ·exact zf9 hi (by decide)
   ·exact zf9 hi (by decide)
  refine ⟨m2.1,fun hb=>?_⟩;obtain ⟨c,c1,c2⟩:=m.2 (zbz _ (ze2 hk _ _ _ h3 hb));obtain ⟨d,d1,d2⟩:=m2.2 hb;refine ⟨c+d+1,by simp only at *;omega,zyG ?_ c2 d2⟩;rcases hi with hi|hi
  ·rw[zeS hi];decide
  ·rw[zeS hi];decide
 ·cases h2;exact m
theorem zjq{ex:Rd}(hx:zo9 ex)(hk:zbD ex):∀ (k:Nat) (l:List Tok) (es:List Ex) (st s0:St) (q:List Tok × List Ex × St),zcu ex k l es st=some q->TK2 st->es.length=l.length->(st.bad=none->(∀ t∈l,t.s≠[])/\∃ b,b+l.length+2*st.rest.length<=2*s0.rest.length/\WBs b es) ->
  TK2 q.2.2/\q.1≠[]/\q.2.1.length=q.1.length/\(q.2.2.bad=none->(∀ t∈q.1,t.s≠[])/\∃ b,b+q.1.length+2*q.2.2.rest.length<=2*s0.rest.length/\WBs b q.2.1)
 |0,_,_,_,_,_,h,_,_,_=>by simp[zcu]at h
 |k+1,l,es,st,s0,q,h,ht,hl,he=>by
  rw[zcu]at h;simp only[zyQ]at h;obtain ⟨r,h1,h2⟩:=h;have m:=hx _ _ _ h1 (ht.zaL.want _);have hs:r.2.bad=none->(∀ t∈l++[(zaL st).1],t.s≠[])/\∃ b,b+(l++[(zaL st).1]).length+2*r.2.rest.length<=2*s0.rest.length/\WBs b (es++[r.1]):=fun hb=>by
   have g1:=hk _ _ _ h1 hb;have g2:=zaC _ _ g1;have g3:=zc2 _ g2;have l1:=zb7 g1 (by decide);obtain ⟨l2,l3⟩:=zmw g2 ht;obtain ⟨e1,b,e2,e3⟩:=he g3;obtain ⟨c,c1,c2⟩:=m.2 hb;refine ⟨fun t hm=>?_,b+c,by simp;omega,e3.snoc c2⟩;rcases zzi.mp hm with hm|hm
   ·exact e1 t hm
   ·rw[zze.mp hm];exact l3
  have aC:(es++[r.1]).length=(l++[(zaL st).1]).length:=by simp[hl]
  split at h2
  ·next hi=>
   have a:=zf9 hi (by decide);refine zjq hx hk k _ _ _ s0 _ h2 m.1.adv aC (fun hb=>?_);obtain ⟨e1,b,e2,e3⟩:=hs (zbz _ hb);exact ⟨e1,b,by omega,e3⟩
  ·cases h2;exact ⟨m.1,by simp,aC,hs⟩
theorem ztu(hx:zo9 ex)(hk:zbD ex){c:Bool}(h:ztQ ex k c st=some q)(ht:TK2 st):TK2 q.2/\(q.2.bad=none->∃ b,b+2*q.2.rest.length<=2*st.rest.length/\WB b q.1):=by
 unfold ztQ at h;simp only[zyQ,zyP]at h;obtain ⟨r,h1,p,h2,rfl⟩:=h;have h0:TK2 (if st.is zo8 then st.adv else st):=by
  split
  ·exact ht.adv
  ·exact ht
 have da:(if st.is zo8 then st.adv else st).rest.length<=st.rest.length:=by
  split
  ·simp[St.adv]
  ·exact zyN _
 obtain ⟨a1,a2,a3,a4⟩:=zjq hx hk k _ _ _ st _ h1 h0 rfl (fun _=>⟨by simp,0,by simpa using zzp 2 da,WBs.nil⟩);have m:=hx _ _ _ h2 (a1.want _);refine ⟨m.1,fun hb=>?_⟩;have g1:=hk _ _ _ h2 hb;have l1:=zb7 g1 (by decide);obtain ⟨e1,b,e2,e3⟩:=a4 (zaC _ _ g1);obtain ⟨d,d1,d2⟩:=m.2 hb;refine ⟨b+d+r.1.length+1,by simp only at *;omega,zyE a2 e1 a3 e3 d2⟩
theorem zts(hx:zo9 ex)(hk:zbD ex){c:Bool}{q:(Nat × List Tok) × Ex × St}(h:ztN ex c st=some q)(ht:TK2 st):q.1.1<=99/\TK2 q.2.2/\(q.2.2.bad=none->(∀ t∈q.1.2,t.s≠[])/\∃ b,b+1+q.1.2.length+2*q.2.2.rest.length<=2*st.rest.length/\WB b q.2.1):=by
 unfold ztN at h;simp only[zyQ,zyP]at h;obtain ⟨r,h1,rfl⟩:=h;have t1:=TK2.want [62] (TK2.zaB 1 99 (ht.want [60]));have m:=hx _ _ _ h1 (TK2.want _ (TK2.zax t1));refine ⟨zdb _ _ _,m.1,fun hb=>?_⟩;have g1:=hk _ _ _ h1 hb;have l1:=zb7 g1 (by decide);have g2:=zaC _ _ g1;obtain ⟨l2,l3⟩:=zdh g2 t1;have g3:=zcM _ g2;have l4:=zb7 g3 (by decide);have g4:=zaC _ _ g3;have l5:=zhL g4;have l6:=zb7 (zdX _ _ _ g4) (by decide);obtain ⟨d,d1,d2⟩:=m.2 hb;exact ⟨l3,d,by simp only at *;omega,d2⟩
theorem zlA{ex:Rd}(hx:zo9 ex)(hk:zbD ex)(c:Bool):∀ (k:Nat) (l:List (Nat × List Tok)) (es:List Ex) (st s0:St) (q:List (Nat × List Tok) × List Ex × St),zeD ex c k l es st=some q->TK2 st->es.length=l.length ->
  (st.bad=none->(∀ x∈l,x.1<=99/\∀ t∈x.2,t.s≠[])/\∃ b,b+(l.map fun x=>1+x.2.length).sum+2*st.rest.length<=2*s0.rest.length/\WBs b es) ->
  TK2 q.2.2/\q.1≠[]/\q.2.1.length=q.1.length/\(q.2.2.bad=none->(∀ x∈q.1,x.1<=99/\∀ t∈x.2,t.s≠[])/\∃ b,b+(q.1.map fun x=>1+x.2.length).sum+2*q.2.2.rest.length<=2*s0.rest.length/\WBs b q.2.1)
 |0,_,_,_,_,_,h,_,_,_=>by simp[zeD]at h
 |k+1,l,es,st,s0,q,h,ht,hl,he=>by
  rw[zeD]at h;simp only[zyQ]at h;obtain ⟨r,h1,h2⟩:=h;obtain ⟨m0,m1,m2⟩:=zts hx hk h1 ht;have hs:r.2.2.bad=none->(∀ x∈l++[r.1],x.1<=99/\∀ t∈x.2,t.s≠[])/\∃ b,b+((l++[r.1]).map fun x=>1+x.2.length).sum+2*r.2.2.rest.length<=2*s0.rest.length/\WBs b (es++[r.2.1]):=fun hb=>by
   obtain ⟨e1,b,e2,e3⟩:=he (zfz hk h1 hb);obtain ⟨f1,d,f2,f3⟩:=m2 hb;refine ⟨fun x hm=>?_,b+d,?_,e3.snoc f3⟩
   ·rcases zzi.mp hm with hm|hm
    ·exact e1 x hm
    ·rw[zze.mp hm];exact ⟨m0,f1⟩
   ·rw[zz3,zz5];simp only[zza,List.map_nil,zzd,List.sum_nil];omega
  have aC:(es++[r.2.1]).length=(l++[r.1]).length:=by simp[hl]
  split at h2
  ·next hi=>
   unfold za8 at hi;simp only[zzv]at hi;have a:=zf9 hi.1 (by decide);refine zlA hx hk c k _ _ _ s0 _ h2 m1.adv aC (fun hb=>?_);obtain ⟨e1,b,e2,e3⟩:=hs (zbz _ hb);exact ⟨e1,b,by omega,e3⟩
  ·cases h2;exact ⟨m1,by simp,aC,hs⟩
theorem zrF(hx:zo9 ex)(hk:zbD ex){c:Bool}(h:zjy ex k c st=some q)(ht:TK2 st):TK2 q.2/\(q.2.bad=none->∃ b,b+2*q.2.rest.length<=2*st.rest.length/\WB b q.1):=by
 unfold zjy at h;simp only[zyQ,zyP]at h;obtain ⟨r,h1,p,h2,rfl⟩:=h;have m:=hx _ _ _ h1 ht;obtain ⟨a1,a2,a3,a4⟩:=zlA hx hk c k _ _ _ (want sOf r.2) _ h2 (m.1.want _) rfl (fun _=>⟨by simp,0,by simp,WBs.nil⟩);refine ⟨a1,fun hb=>?_⟩;have g1:=zfn hk c k _ _ _ _ h2 hb;have l1:=zb7 g1 (by decide);obtain ⟨e1,b,e2,e3⟩:=a4 hb;obtain ⟨d,d1,d2⟩:=m.2 (zaC _ _ g1);exact ⟨b+d+(p.1.map fun x=>1+x.2.length).sum+1,by simp only at *;omega,zx1 a2 e1 a3 e3 d2⟩
theorem ztt(hx:zo9 ex)(hk:zbD ex){c:Bool}(h:ztO ex c st=some q)(ht:TK2 st):TK2 q.2/\(q.2.bad=none->∃ b,b+2*q.2.rest.length<=2*st.rest.length/\WB b q.1):=by
 unfold ztO at h;simp only[zyQ,zyP]at h;obtain ⟨r,h1,rfl⟩:=h;have m:=hx _ _ _ h1 (TK2.want _ (TK2.zax ht.zaL));refine ⟨m.1,fun hb=>?_⟩;have g1:=hk _ _ _ h1 hb;have l1:=zb7 g1 (by decide);have g2:=zaC _ _ g1;obtain ⟨l2,l3⟩:=zdh g2 ht.zaL;have g3:=zcM _ g2;obtain ⟨l4,l5⟩:=zmw g3 ht;obtain ⟨d,d1,d2⟩:=m.2 hb;refine ⟨d+((zaL st).1::(zax (zaL st).2).1).length+1,by simp only[zy8]at *;omega,zyD (by simp) (fun t hm=>?_) d2⟩;rcases zzo.1 hm with rfl|hm
 ·exact l5
 ·exact l3 t hm
theorem zrE(hx:zo9 ex)(hk:zbD ex)(k:Nat):zo9 (zg7 ex k):=by
 intro c st q h ht;unfold zg7 at h;have go:∀ {s:List UInt8},st.is s=true->s≠[]->TK2 q.2/\(q.2.bad=none->∃ b,b+2*q.2.rest.length<=2*st.adv.rest.length/\WB b q.1)->zkw st q:=fun hi hs m=>by
  have a:=zf9 hi hs;refine ⟨m.1,fun hb=>?_⟩;obtain ⟨b,b1,b2⟩:=m.2 hb;exact ⟨b,by omega,b2⟩
 split at h
 ·next hi=>exact go hi (by decide) (ztu hx hk h ht.adv)
 ·split at h
  ·next hi=>exact go hi (by decide) (zrF hx hk h ht.adv)
  ·split at h
   ·next hi=>exact go hi (by decide) (ztt hx hk h ht.adv)
   ·exact zrG hx hk h ht
theorem zlD:∀ n,zo9 (zdJ n)
 |0=>fun _ _ _ h=>by simp[zdJ]at h
 |n+1=>zrE (zlD n) (zcz n) n
def zwJ (b:Nat) (l:List zbr):Prop:=∃ m,(∀ x∈l,Cp.Dp m x.e/\∀ t∈x.params,t.s≠[])/\(l.map fun x=>Cp.wt m x.e+x.params.length+1).sum<=b
theorem zgp{n:Nat}:∀ (k:Nat) (l:List zbr) (st s0:St) (q:List zbr × St),zcn (zdJ n) k l st=some q->TK2 st->(st.bad=none->∃ b,b+2*st.rest.length<=2*s0.rest.length/\zwJ b l)->q.2.bad=none->zwJ (2*s0.rest.length) q.1
 |0,_,_,_,_,h,_,_,_=>by simp[zcn]at h
 |k+1,l,st,s0,q,h,ht,hl,hb=>by
  rw[zcn]at h;split at h
  ·simp only[zyQ]at h;obtain ⟨r,h1,h2⟩:=h;unfold zmE at h1;simp only[zyQ,zyP]at h1;obtain ⟨p,h3,rfl⟩:=h1;have m:=zlD n _ _ _ h3 (TK2.want _ (TK2.zax ht.zaL));refine zgp k _ _ s0 _ h2 (m.1.want _) (fun aw=>?_) hb;have w1:=zb7 aw (by decide);have hp:=zaC _ _ aw;have g1:=zcz n _ _ _ h3 hp;have l1:=zb7 g1 (by decide);have g2:=zaC _ _ g1;obtain ⟨l2,l3⟩:=zdh g2 ht.zaL;have g3:=zcM _ g2;obtain ⟨l4,l5⟩:=zmw g3 ht;obtain ⟨b,b1,m1,e1,e2⟩:=hl (zc2 _ g3);obtain ⟨d,d1,m2,f1,f2⟩:=m.2 hp;refine ⟨b+(d+(zax (zaL st).2).1.length+1),by simp only at *;omega,m1+m2,fun x hx=>?_,?_⟩
   ·rcases zzi.mp hx with hx|hx
    ·exact ⟨(e1 x hx).1.le (by omega),(e1 x hx).2⟩
    ·rw[zze.mp hx];exact ⟨f1.le (by omega),l3⟩
   ·rw[zz3,zz5];have e3:(l.map fun x=>Cp.wt (m1+m2) x.e+x.params.length+1)=l.map fun x=>Cp.wt m1 x.e+x.params.length+1:=zAf (fun x hx=>by rw[Cp.zk9 (e1 x hx).1 (by omega)])
    rw[e3];have e4:=Cp.zk9 f1 (show m2<=m1+m2 by omega);simp only[zza,List.map_nil,zzd,List.sum_nil];omega
  ·cases h;obtain ⟨b,b1,m,e1,e2⟩:=hl hb;exact ⟨m,e1,by simp only at *;omega⟩
end Th
end Go.Proofs.YtgahgkddaljmkaaGreatDoor
namespace Go.Proofs.YtgahgkddaljmkaaGreatDoor
open Tryz
open Go.RowKit
namespace Th
def zcx:Nat->Nat->List Tok->Prop
 |lo,hi,[]=>lo<=hi
 |lo,hi,t::r=>lo<=t.at_/\zcx (t.at_+1) hi r
def zbd (P:Ex->Nat->Nat->Prop):Nat->Nat->List Tok->List Ex->Prop
 |lo,hi,[],[]=>lo<=hi
 |lo,hi,t::r,e::es=>lo<=t.at_/\∃ m,P e (t.at_+1) m/\zbd P m hi r es
 |_,_,_,_=>False
def zcb (P:Ex->Nat->Nat->Prop):Nat->Nat->List (Nat × List Tok)->List Ex->Prop
 |lo,hi,[],[]=>lo<=hi
 |lo,hi,a::r,e::es=>∃ m1 m2,zcx (lo+1) m1 a.2/\P e m1 m2/\zcb P m2 hi r es
 |_,_,_,_=>False
def In:Nat->Ex->Nat->Nat->Prop
 |0,_,_,_=>False
 |n+1,e,lo,hi=>lo<=hi /\
  (((e.kind=1\/e.kind=3))\/(e.kind=2/\lo<=e.tok.at_/\e.tok.at_<hi) \/
   (e.kind=4/\∃ b m,e.kids=[b]/\zcx lo m e.names/\In n b m hi) \/
   ((e.kind=5\/e.kind=6)/\∃ e1 e2 m,e.kids=[e1,e2]/\In n e1 lo m/\In n e2 m hi) \/
   ((e.kind=7\/e.kind=8)/\∃ b parts m,e.kids=b::parts/\zbd (In n) lo m e.names parts/\In n b m hi) \/
   (e.kind=9/\∃ b ag m,e.kids=b::ag/\In n b lo m/\zcb (In n) m hi e.zao ag))
theorem zcx.len:∀ {lo hi:Nat} {l:List Tok},zcx lo hi l->lo+l.length<=hi
 |lo,hi,[],h=>h
 |lo,hi,t::r,h=>by
  have:=zcx.len h.2;have:=h.1;simp;omega
theorem In.le:∀ {n:Nat} {e:Ex} {lo hi:Nat},In n e lo hi->lo<=hi
 |0,_,_,_,h=>h.elim
 |_+1,_,_,_,h=>h.1
theorem zbd.len{n:Nat}:∀ {lo hi:Nat} {l:List Tok} {es:List Ex},zbd (In n) lo hi l es->lo+l.length<=hi
 |lo,hi,[],[],h=>h
 |lo,hi,t::r,e::es,h=>by
  obtain ⟨h1,m,h2,h3⟩:=h;have:=zbd.len h3;have:=In.le h2;simp;omega
 |_,_,[],_::_,h=>h.elim
 |_,_,_::_,[],h=>h.elim
theorem zcb.len{n:Nat}:∀ {lo hi:Nat} {l:List (Nat × List Tok)} {es:List Ex},zcb (In n) lo hi l es->lo+l.length<=hi
 |lo,hi,[],[],h=>h
 |lo,hi,a::r,e::es,h=>by
  obtain ⟨m1,m2,h1,h2,h3⟩:=h;have:=zcb.len h3;have:=In.le h2;have:=zcx.len h1;simp;omega
 |_,_,[],_::_,h=>h.elim
 |_,_,_::_,[],h=>h.elim
end Th
def zwK (n:Nat):Prop:=∀ (w:World) (c:Nat) (o:Option Nat) (v:Value) (e:Th.Ex) (av:Value) (ae:List (List UInt8)) (S A:Nat->Prop) (m lo hi:Nat),
 Chk w c o->Rep S w m v e->Th.In n e lo hi->Row A w 9 1 av ae.length (strCells ae)->¬ S c->¬ A c->ae.length+(hi-lo)<=1000000 ->
  Calls prog 71 #[.pointer (some ⟨c,0,none⟩),v,av] w fun en w'=>en=.returned (.tuple #[])/\Chk w' c (after o (Th.zar n e ae))/\w.grownBy w' (some c)
variable {n:Nat}{w:World}{c:Nat}{o:Option Nat}{v av:Value}{l:List Th.Tok}{ae:List (List UInt8)}{S A:Nat->Prop}{m lo dm hi:Nat}
theorem zlw(hx:zwK n){nv:Value}{e:Th.Ex}(hc:Chk w c o)(hn:Row S w 88 2 nv l.length (zaj l))(hr:Rep S w m v e)(h1:Th.zcx lo dm l)(h2:Th.In n e dm hi)(ha:Row A w 9 1 av ae.length (strCells ae))(hS:¬ S c)(hA:¬ A c)(hb:ae.length+(hi-lo)<=1000000):
  Calls prog 122 #[.pointer (some ⟨c,0,none⟩),nv,v,av] w fun en w'=>en=.returned (.tuple #[])/\Chk w' c (after o (Th.zjc [] l++Th.zar n e (ae++Th.texts l)))/\w.grownBy w' (some c):=by
 have aL:=h1.len;have aC:=h2.le;have aN:=hc.lt;have lp:l.length<=1000000:=by omega
 have aU:ae.length<=1000000:=by omega
 have E1:=zah hr;have fD:=zae hn;have jw:=zae ha;have hd:=zab (zia hc hn hS lp);have HN:=zab hn;have HR:=zab hr;have HA:=zab ha;have HI:=zab (And.intro h2 (And.intro hS hA));have HL:Hid ((ae++Th.texts l).length+(hi-dm)<=1000000):=zab (by simp[Th.texts];omega);have HX:=zab hx;clear hc hn hr h1 h2 ha hS hA hb hx aL aC;obtain ⟨t,x,rfl⟩:=E1;obtain ⟨na,nn,nc,rfl⟩:=fD;obtain ⟨aa,an,ac,rfl⟩:=jw;go_enter func122,ntmps122
 go_wp2_with fail
 refine hd.o.mono ?_;rintro en w1 ⟨rfl,bH,bw⟩;have HC:=zab bH;have HG:=zab bw;have cR:=HN.o.gb bw (fun j hj=>by cases hj;exact HI.o.2.1);have ht:=zab (ze4 cR lp);have cT:=bw.size;clear bH bw cR;go_wp2_with fail
 refine ht.o.mono ?_;rintro en w2 ⟨tv,rfl,eC,aw⟩;obtain ⟨ta,tn,tc,rfl⟩:=zae (Row.zaE eC);have j6:=aw.size;have eK:=zab (zad HG.o (zaf (some c) aw));have ua:=zab (HC.o.below aw);have HT:Hid (w2.ownsRow w1.heap.size 9 1 (.slice ta tn tc) (Th.texts l).length (strCells (Th.texts l))):=zab (by simpa [Th.texts] using eC);clear eC aw hd ht;go_wp2_with fail
 have ic:=zfs (HA.o.gb eK.o (fun j hj=>by cases hj;exact HI.o.2.2)) (Row.zaE HT.o) aU (by simpa [Th.texts] using lp);refine ic.mono ?_;clear ic;rintro en w3 ⟨ka,kn,kc,rfl,hK,bD⟩;have aS:=zad eK.o (zaf (some c) bD);have hU:=zab (HX.o w3 c _ _ e _ _ S _ m dm hi (ua.o.below bD) (HR.o.gb aS (fun j hj=>by cases hj;exact HI.o.2.1)) HI.o.1 hK HI.o.2.1 (by show ¬ (w2.heap.size<=c);omega) HL.o);have gC:=zab aS;clear hK bD aS;go_wp2_with fail
 refine hU.o.mono ?_;rintro en w4 ⟨rfl,jj,bM⟩;have H4:=zab (And.intro jj bM);clear jj bM;go_wp2_with fail
 go_end0
 exact ⟨rfl,by rw[zaQ];exact H4.o.1,zad gC.o H4.o.2⟩
end Go.Proofs.YtgahgkddaljmkaaGreatDoor
namespace Go.Proofs.YtgahgkddaljmkaaGreatDoor
open Tryz
open Go.RowKit
attribute [local go_sem ↓] Go.wp_at_zero Go.wp_at_succ
theorem zgG(wr:Th.Ex->List (List UInt8)->List Nat)(ar:List (List UInt8)):∀ (seen:List (List UInt8)) (l:List Th.Tok) (es:List Th.Ex) (t:Th.Tok) (e:Th.Ex),l.length=es.length ->
  Th.zbq wr ar seen (l++[t]) (es++[e])=Th.zbq wr ar seen l es++((if (seen++Th.texts l).contains t.s then [t.at_] else [])++wr e ar)
 |seen,[],[],t,e,_=>by simp[Th.zbq,Th.texts]
 |seen,x::l,y::es,t,e,h=>by
  simp only[zy7,Th.zbq];rw[zgG wr ar (seen++[x.s]) l es t e (by simpa using h)];simp[Th.texts]
 |_,[],_::_,_,_,h=>by simp at h
 |_,_::_,[],_,_,h=>by simp at h
theorem zgh{n:Nat}:∀ {lo hi:Nat} {l:List Th.Tok} {es:List Th.Ex},Th.zbd (Th.In n) lo hi l es->∀ (k:Nat) (p:Th.Ex),es[k]?=some p->∃ dL eX,Th.In n p dL eX/\l.length+(eX - dL)<=hi-lo
 |lo,hi,[],[],_,k,p,hp=>by simp at hp
 |lo,hi,t::r,e::es,h,0,p,hp=>by
  obtain ⟨h1,m,h2,h3⟩:=h;simp only[zzl,zyP]at hp;subst hp;have:=Th.zbd.len h3;have:=Th.In.le h2;exact ⟨_,_,h2,by simp;omega⟩
 |lo,hi,t::r,e::es,h,k+1,p,hp=>by
  obtain ⟨h1,m,h2,h3⟩:=h;have:=Th.zbd.len h3;have:=Th.In.le h2;obtain ⟨dL,eX,h4,h5⟩:=zgh h3 k p (by simpa using hp);exact ⟨dL,eX,h4,by simp;omega⟩
 |_,_,[],_::_,h,_,_,_=>h.elim
 |_,_,_::_,[],h,_,_,_=>h.elim
variable {n:Nat}{w:World}{c:Nat}{o:Option Nat}{r:Bool}{sv av:Value}{l:List Th.Tok}{ae:List (List UInt8)}{S A:Nat->Prop}{m lo dm hi:Nat}
theorem zxw(hx:zwK n){bv:Value}{parts:List Th.Ex}{pvs:List Value}{b:Th.Ex}(hc:Chk w c o)(h3:parts.length=l.length)(h4:pvs.length=l.length)(h5:Row S w 312 3 sv l.length (zaM l pvs))(h6:∀ (i:Nat) (pv:Value) (p:Th.Ex),pvs[i]?=some pv->parts[i]?=some p->Rep S w m pv p)(h7:Rep S w m bv b)(h1:Th.zbd (Th.In n) lo dm l parts)(h2:Th.In n b dm hi)(ha:Row A w 9 1 av ae.length (strCells ae))(hS:¬ S c)(hA:¬ A c)(hb:ae.length+(hi-lo)<=1000000):
  Calls prog 121 #[.pointer (some ⟨c,0,none⟩),.agg #[.bool r,sv,bv],av] w fun en w'=>en=.returned (.tuple #[])/\Chk w' c (after o (Th.zbq (Th.zar n) (if r then ae++Th.texts l else ae) [] l parts++Th.zar n b (ae++Th.texts l)))/\w.grownBy w' (some c):=by
 have aL:=h1.len;have aC:=h2.le;have aN:=hc.lt;have lp:l.length<=1000000:=by omega
 have aU:ae.length<=1000000:=by omega
 have bR:∀ (i:Nat) (pv:Value),pvs[i]?=some pv->pv.oneCell'=true:=fun i pv hp=>by
  have:i<parts.length:=by rw[h3,<-h4];exact (zyL.1 hp).1
  exact (ztU (h6 i pv parts[i] hp (zyM this))).one
 have oA:=zab bR;obtain ⟨t,x,rfl⟩:=zah h7;obtain ⟨aa,an,ac,rfl⟩:=zae ha;have eM:=zan h5;have HC:=zab hc;have H3:=zab h3;have H4:=zab h4;have H5:=zab h5;have H6:=zab h6;have H7:=zab h7;have HA:=zab ha;have HI:=zab (And.intro h1 (And.intro h2 (And.intro hS hA)));have HL:Hid ((ae++Th.texts l).length+(hi-dm)<=1000000/\ae.length+(dm-lo)<=1000000):=zab (by simp[Th.texts];omega);have HX:=zab hx;clear hc h3 h4 h5 h6 h7 ha h1 h2 hS hA hb hx aL aC bR;obtain ⟨sa,sn,sc,E9⟩:∃ sa sn sc,sv=.slice sa sn sc:=by
  rcases eM with h|⟨g,cap,h⟩
  ·exact ⟨_,_,_,h⟩
  ·exact ⟨_,_,_,h⟩
 subst E9;have hE:=Blk.new w [.bool r,.slice sa sn sc,.iface t x] 178;have dE:=zag w (.cells #[.bool r,.slice sa sn sc,.iface t x] 178) (some c);have ek:=zab (zcX (rb:=r) (bt:=t) (bx:=x) (H5.o.gb dE (fun j hj=>by cases hj;exact HI.o.2.2.1)) H4.o oA.o lp);have HE:=zab hE;have eQ:=zab dE;clear hE dE;go_enter func121,ntmps121
 go_wp2_with fail
 refine ek.o.mono ?_;rintro en w1 ⟨tv,rfl,eC,aA⟩;obtain ⟨ta,tn,tc,rfl⟩:=zae (Row.zaE eC);have x8:w.heap.size<w1.heap.size:=by
  have:=aA.size;have:=HE.o.lt;omega
 have my:=zab (HE.o.below aA HE.o.lt);have gY:=zab (zad eQ.o (zaf (some c) aA));have lR:=zab ((HC.o.gb (zag _ _ none) (by simp)).below aA);have HT:Hid (w1.ownsRow w.heap.size 9 1 (.slice ta tn tc) (Th.texts l).length (strCells (Th.texts l))):=zab (by
  refine za0 ?_ (zag w (.cells #[.bool r,.slice sa sn sc,.iface t x] 178) none).size;simpa [Th.texts] using eC)
 have e0:=Blk.cell my.o 0;have e1:=Blk.cell my.o 1;have e2:=Blk.cell my.o 2;simp at e0 e1 e2;clear eC aA ek HC HE eQ;go_wp2_with fail
 have ic:=zfs (HA.o.gb gY.o (fun j hj=>by cases hj;exact HI.o.2.2.2)) (Row.zaE HT.o) aU (by simpa [Th.texts] using lp);refine ic.mono ?_;clear ic e0 e1 e2;rintro en w2 ⟨ka,kn,kc,rfl,hK,aw⟩;have eK:=zab (zad gY.o (zaf (some c) aw));have ua:=zab (lR.o.below aw);have ze:=zab (HT.o.kept (zaf none aw) (zfy _));have fU:=zab (my.o.below aw my.o.lt);have HK:=zab hK;have j6:=aw.size;have e0:=Blk.cell fU.o 0;have e1:=Blk.cell fU.o 1;have e2:=Blk.cell fU.o 2;simp at e0 e1 e2;clear hK aw gY lR HT my;have rF:¬ (w1.heap.size<=c):=by omega
 have gD:Hid (∀ (sd:Bool) (q:Value),q=(if sd then .slice ka kn kc else .slice aa an ac)->∃ B:Nat->Prop,Row B w2 9 1 q (if sd then ae++Th.texts l else ae).length (strCells (if sd then ae++Th.texts l else ae))/\¬ B c/\∀ (k:Nat) (p:Th.Ex),parts[k]?=some p->∃ dL eX,Th.In n p dL eX/\(if sd then ae++Th.texts l else ae).length+(eX - dL)<=1000000):=zab (fun sd q hq=>by
  subst hq;cases sd
  ·refine ⟨A,HA.o.gb eK.o (fun j hj=>by cases hj;exact HI.o.2.2.2),HI.o.2.2.2,fun k p hp=>?_⟩;obtain ⟨dL,eX,h8,h9⟩:=zgh HI.o.1 k p hp;have:=HL.o.2;exact ⟨dL,eX,h8,by show ae.length+(eX - dL)<=1000000;omega⟩
  ·refine ⟨_,HK.o,rF,fun k p hp=>?_⟩;obtain ⟨dL,eX,h8,h9⟩:=zgh HI.o.1 k p hp;have:=HL.o.2;exact ⟨dL,eX,h8,by show (ae++Th.texts l).length+(eX - dL)<=1000000;simp[Th.texts];omega⟩)
 have fD:Hid (sn=l.length):=zab (by
  rcases H5.o.1.2 with ⟨h,h0⟩|⟨_,_,_,h0,_⟩
  ·cases h;exact h0.symm
  ·cases h0;rfl)
 cases r
 ·obtain ⟨B,cU,jh,ia⟩:=gD.o false (.slice aa an ac) rfl;have HB:=zab (And.intro cU (And.intro jh ia));clear cU jh ia;go_wp2_with fail
  have aK:=fD.o;subst aK
  go_loopg [24] l.length (fun gk i wr=>∃ k:Nat,i=.int .i64 k/\k<=l.length/\l.length-k<=gk/\Chk wr c (after o (Th.zbq (Th.zar n) (if false then ae++Th.texts l else ae) [] (l.take k) (parts.take k)))/\w2.grownBy wr (some c))
  case atStart=>exact ⟨0,rfl,zy5 _,by omega,by rw[zzR,zzR,show Th.zbq (Th.zar n) (if false then ae++Th.texts l else ae) [] [] []=[] from rfl,zbZ];exact ua.o,zcT _ _⟩
  case round=>
   obtain ⟨k,rfl,hk,jm,fV,hg⟩:=hrel;have jQ:=zab fV;have Hg:=zab hg;have cT:=hg.size;by_cases aj:k<l.length
   ·obtain ⟨g,jw⟩:∃ g,sa=some ⟨g,0,none⟩:=by
     rcases eM with h|⟨g,cap,h⟩
     ·have:=(Value.slice.inj h).2.1;omega
     ·exact ⟨g,(Value.slice.inj h).1⟩
    subst jw;have ib:=ze.o;obtain ⟨g2,tf⟩:∃ g2,ta=some ⟨g2,0,none⟩/\tn=l.length:=by
     rcases zan (Row.zaE ib) with h|⟨g2,cap,h⟩
     ·rcases ib.2 with ⟨_,h0⟩|⟨_,_,_,h0,_⟩
      ·rw[show (Th.texts l).length=l.length by simp[Th.texts]]at h0;omega
      ·rw[h]at h0;cases h0
     ·cases h;exact ⟨g2,rfl,by simp[Th.texts]⟩
    obtain ⟨rfl,rfl⟩:=tf;obtain ⟨t,ht⟩:∃ t,l[k]?=some t:=⟨l[k],zyM aj⟩;obtain ⟨p,hp⟩:∃ p,parts[k]?=some p:=⟨_,zyM (by rw[H3.o];exact aj)⟩;obtain ⟨pv,eD⟩:∃ pv,pvs[k]?=some pv:=⟨_,zyM (by rw[H4.o];exact aj)⟩;have aR:=((H6.o k pv p eD hp).gb (zad eK.o hg) (fun j hj=>by cases hj;exact HI.o.2.2.1));obtain ⟨pt,px,rfl⟩:=zah aR;have aE:=zbA l pvs k t _ ht eD;have af:=(H5.o.gb (zad eK.o hg) (fun j hj=>by cases hj;exact HI.o.2.2.1)).1;have c0:=(af.cellAt (k*3) (by omega)).trans aE.1;have c1:=(af.cellAt (k*3+1) (by omega)).trans aE.2.1;have c2:=(af.cellAt (k*3+2) (by omega)).trans aE.2.2;have fX:=(af.lt g rfl).2;have Ht:=zab (zaJ ht);have Hp:=zab (zaJ hp);have dF:(0:Int)<=(k:Int):=zzN _;have xt:c<w2.heap.size:=by omega
    have kL:wr.ownsRow w.heap.size 9 1 (.slice (some ⟨g2,0,none⟩) l.length tc) l.length (strCells (Th.texts l)):=by
     have:=ib.kept hg (zdi ib aN);simpa [Th.texts] using this
    have kT:l.length<=tc:=by
     rcases kL.2 with ⟨h0,_⟩|⟨_,_,_,h0,_,_,hn,_⟩
     ·cases h0
     ·cases h0;exact hn
    have cK:(k:Int)<=(tc:Int):=by omega
    have gl:=zg6 kL (i:=k) (by omega);rw[zeo]at gl;have oE:Hid (wr.ownsRow w.heap.size 9 1 (.slice (some ⟨g2,0,none⟩) k tc) (Th.texts (l.take k)).length (strCells (Th.texts (l.take k)))):=zab (by
     rw[show (Th.texts (l.take k)).length=k by simp[Th.texts];omega];exact gl)
    have dn:=zab (fun (W:World) (hW:Chk W c (after o (Th.zbq (Th.zar n) (if false then ae++Th.texts l else ae) [] (l.take k) (parts.take k)))) (hR:W.ownsRow w.heap.size 9 1 (.slice (some ⟨g2,0,none⟩) k tc) (Th.texts (l.take k)).length (strCells (Th.texts (l.take k))))=>zgW hW ⟨t.s.toArray⟩ t.at_ hR (by simp[Th.texts];omega));have Hd:Hid (Th.zbq (Th.zar n) (if false then ae++Th.texts l else ae) [] (l.take (k+1)) (parts.take (k+1))=Th.zbq (Th.zar n) (if false then ae++Th.texts l else ae) [] (l.take k) (parts.take k)++((if (Th.texts (l.take k)).contains t.s then [t.at_] else [])++Th.zar n p (if false then ae++Th.texts l else ae))):=zab (by
     rw[Ht.o,Hp.o,zgG _ _ _ _ _ _ _ (by have:=H3.o;simp;omega)];simp)
    have dT:=zab aR;have HP:=zab hp;have pV:Hid (c≠wr.heap.size):=zab (by omega);clear fV hg ht hp eD aE af ib kL gl aR e0 e1 e2 eM fD gD;go_wp2_with fail
    go_region_with (go_at_call 69;refine (dn.o _ ?_ ?_).mono ?_;exact Blk.drew (Blk.alloc jQ.o _);exact (oE.o.alloc _).drew;rintro e w3 ⟨rfl,h3,aS⟩;have vp:=zab h3;have gC:=zab aS;have p2:w3.cell? ⟨wr.heap.size,2,none⟩=some (.iface pt px):=Blk.cell (Blk.grown (Blk.drew (Blk.new wr [.string ⟨t.s.toArray⟩,.int .i64 t.at_,.iface pt px] 312)) aS (by intro h;injection h with h;exact pV.o h.symm)) 2;clear h3 aS)
    all_goals
     have gZ:=zab (zad (zad (zad Hg.o (zag _ _ _)) (zbO _ _)) gC.o);obtain ⟨dL,eX,hin,dq⟩:=HB.o.2.2 k p HP.o;have hU:=zab (HX.o w3 c _ _ p _ _ S B m dL eX vp.o (dT.o.gb (zad (zad (zag _ _ _) (zbO _ _)) gC.o) (fun j hj=>by cases hj;exact HI.o.2.2.1)) hin (HB.o.1.gb gZ.o (fun j hj=>by cases hj;exact HB.o.2.1)) HI.o.2.2.1 HB.o.2.1 dq);clear hin dq;go_wp2_with fail
     refine hU.o.mono ?_;rintro en w5 ⟨rfl,jD,cH⟩;have jy:=zab (And.intro jD cH);clear jD cH p2;go_wp2_with fail
     go_roundg (l.length-(k+1))
     case measure=>omega
     case rel=>
      refine ⟨k+1,by go_num,by omega,zyN _,?_,zad gZ.o jy.o.2⟩;rw[Hd.o,zaQ,zaQ];exact jy.o.1
   ·have aG:k=l.length:=by omega
    have Hk:=zab aG;have rB:=fU.o.grown hg (by intro h;injection h with h;omega);have e3:=Blk.cell rB 2;simp at e3;clear fV hg aG e0 e1 e2 rB gD;have gZ:=zab (zad eK.o Hg.o);have hU:=zab (HX.o wr c _ _ b _ _ S _ m dm hi jQ.o (H7.o.gb gZ.o (fun j hj=>by cases hj;exact HI.o.2.2.1)) HI.o.2.1 (HK.o.gb Hg.o (fun j hj=>by cases hj;exact rF)) HI.o.2.2.1 rF HL.o.1);go_wp2_with fail
    refine hU.o.mono ?_;rintro en w5 ⟨rfl,jD,cH⟩;have jy:=zab (And.intro jD cH);clear jD cH;go_wp2_with fail
    go_end0
    refine ⟨rfl,?_,zad gZ.o jy.o.2⟩;have ho:=jy.o.1;rw[Hk.o,zy9 (zyN _),zy9 (Nat.le_of_eq H3.o)]at ho;rw[zaQ];exact ho
 ·obtain ⟨B,cU,jh,ia⟩:=gD.o true (.slice ka kn kc) rfl;have HB:=zab (And.intro cU (And.intro jh ia));clear cU jh ia;go_wp2_with fail
  have aK:=fD.o;subst aK
  go_loopg [24] l.length (fun gk i wr=>∃ k:Nat,i=.int .i64 k/\k<=l.length/\l.length-k<=gk/\Chk wr c (after o (Th.zbq (Th.zar n) (if true then ae++Th.texts l else ae) [] (l.take k) (parts.take k)))/\w2.grownBy wr (some c))
  case atStart=>exact ⟨0,rfl,zy5 _,by omega,by rw[zzR,zzR,show Th.zbq (Th.zar n) (if true then ae++Th.texts l else ae) [] [] []=[] from rfl,zbZ];exact ua.o,zcT _ _⟩
  case round=>
   obtain ⟨k,rfl,hk,jm,fV,hg⟩:=hrel;have jQ:=zab fV;have Hg:=zab hg;have cT:=hg.size;by_cases aj:k<l.length
   ·obtain ⟨g,jw⟩:∃ g,sa=some ⟨g,0,none⟩:=by
     rcases eM with h|⟨g,cap,h⟩
     ·have:=(Value.slice.inj h).2.1;omega
     ·exact ⟨g,(Value.slice.inj h).1⟩
    subst jw;have ib:=ze.o;obtain ⟨g2,tf⟩:∃ g2,ta=some ⟨g2,0,none⟩/\tn=l.length:=by
     rcases zan (Row.zaE ib) with h|⟨g2,cap,h⟩
     ·rcases ib.2 with ⟨_,h0⟩|⟨_,_,_,h0,_⟩
      ·rw[show (Th.texts l).length=l.length by simp[Th.texts]]at h0;omega
      ·rw[h]at h0;cases h0
     ·cases h;exact ⟨g2,rfl,by simp[Th.texts]⟩
    obtain ⟨rfl,rfl⟩:=tf;obtain ⟨t,ht⟩:∃ t,l[k]?=some t:=⟨l[k],zyM aj⟩;obtain ⟨p,hp⟩:∃ p,parts[k]?=some p:=⟨_,zyM (by rw[H3.o];exact aj)⟩;obtain ⟨pv,eD⟩:∃ pv,pvs[k]?=some pv:=⟨_,zyM (by rw[H4.o];exact aj)⟩;have aR:=((H6.o k pv p eD hp).gb (zad eK.o hg) (fun j hj=>by cases hj;exact HI.o.2.2.1));obtain ⟨pt,px,rfl⟩:=zah aR;have aE:=zbA l pvs k t _ ht eD;have af:=(H5.o.gb (zad eK.o hg) (fun j hj=>by cases hj;exact HI.o.2.2.1)).1;have c0:=(af.cellAt (k*3) (by omega)).trans aE.1;have c1:=(af.cellAt (k*3+1) (by omega)).trans aE.2.1;have c2:=(af.cellAt (k*3+2) (by omega)).trans aE.2.2;have fX:=(af.lt g rfl).2;have Ht:=zab (zaJ ht);have Hp:=zab (zaJ hp);have dF:(0:Int)<=(k:Int):=zzN _;have xt:c<w2.heap.size:=by omega
    have kL:wr.ownsRow w.heap.size 9 1 (.slice (some ⟨g2,0,none⟩) l.length tc) l.length (strCells (Th.texts l)):=by
     have:=ib.kept hg (zdi ib aN);simpa [Th.texts] using this
    have kT:l.length<=tc:=by
     rcases kL.2 with ⟨h0,_⟩|⟨_,_,_,h0,_,_,hn,_⟩
     ·cases h0
     ·cases h0;exact hn
    have cK:(k:Int)<=(tc:Int):=by omega
    have gl:=zg6 kL (i:=k) (by omega);rw[zeo]at gl;have oE:Hid (wr.ownsRow w.heap.size 9 1 (.slice (some ⟨g2,0,none⟩) k tc) (Th.texts (l.take k)).length (strCells (Th.texts (l.take k)))):=zab (by
     rw[show (Th.texts (l.take k)).length=k by simp[Th.texts];omega];exact gl)
    have dn:=zab (fun (W:World) (hW:Chk W c (after o (Th.zbq (Th.zar n) (if true then ae++Th.texts l else ae) [] (l.take k) (parts.take k)))) (hR:W.ownsRow w.heap.size 9 1 (.slice (some ⟨g2,0,none⟩) k tc) (Th.texts (l.take k)).length (strCells (Th.texts (l.take k))))=>zgW hW ⟨t.s.toArray⟩ t.at_ hR (by simp[Th.texts];omega));have Hd:Hid (Th.zbq (Th.zar n) (if true then ae++Th.texts l else ae) [] (l.take (k+1)) (parts.take (k+1))=Th.zbq (Th.zar n) (if true then ae++Th.texts l else ae) [] (l.take k) (parts.take k)++((if (Th.texts (l.take k)).contains t.s then [t.at_] else [])++Th.zar n p (if true then ae++Th.texts l else ae))):=zab (by
     rw[Ht.o,Hp.o,zgG _ _ _ _ _ _ _ (by have:=H3.o;simp;omega)];simp)
    have dT:=zab aR;have HP:=zab hp;have pV:Hid (c≠wr.heap.size):=zab (by omega);clear fV hg ht hp eD aE af ib kL gl aR e0 e1 e2 eM fD gD;go_wp2_with fail
    go_region_with (go_at_call 69;refine (dn.o _ ?_ ?_).mono ?_;exact Blk.drew (Blk.alloc jQ.o _);exact (oE.o.alloc _).drew;rintro e w3 ⟨rfl,h3,aS⟩;have vp:=zab h3;have gC:=zab aS;have p2:w3.cell? ⟨wr.heap.size,2,none⟩=some (.iface pt px):=Blk.cell (Blk.grown (Blk.drew (Blk.new wr [.string ⟨t.s.toArray⟩,.int .i64 t.at_,.iface pt px] 312)) aS (by intro h;injection h with h;exact pV.o h.symm)) 2;clear h3 aS)
    all_goals
     have gZ:=zab (zad (zad (zad Hg.o (zag _ _ _)) (zbO _ _)) gC.o);obtain ⟨dL,eX,hin,dq⟩:=HB.o.2.2 k p HP.o;have hU:=zab (HX.o w3 c _ _ p _ _ S B m dL eX vp.o (dT.o.gb (zad (zad (zag _ _ _) (zbO _ _)) gC.o) (fun j hj=>by cases hj;exact HI.o.2.2.1)) hin (HB.o.1.gb gZ.o (fun j hj=>by cases hj;exact HB.o.2.1)) HI.o.2.2.1 HB.o.2.1 dq);clear hin dq;go_wp2_with fail
     refine hU.o.mono ?_;rintro en w5 ⟨rfl,jD,cH⟩;have jy:=zab (And.intro jD cH);clear jD cH p2;go_wp2_with fail
     go_roundg (l.length-(k+1))
     case measure=>omega
     case rel=>
      refine ⟨k+1,by go_num,by omega,zyN _,?_,zad gZ.o jy.o.2⟩;rw[Hd.o,zaQ,zaQ];exact jy.o.1
   ·have aG:k=l.length:=by omega
    have Hk:=zab aG;have rB:=fU.o.grown hg (by intro h;injection h with h;omega);have e3:=Blk.cell rB 2;simp at e3;clear fV hg aG e0 e1 e2 rB gD;have gZ:=zab (zad eK.o Hg.o);have hU:=zab (HX.o wr c _ _ b _ _ S _ m dm hi jQ.o (H7.o.gb gZ.o (fun j hj=>by cases hj;exact HI.o.2.2.1)) HI.o.2.1 (HK.o.gb Hg.o (fun j hj=>by cases hj;exact rF)) HI.o.2.2.1 rF HL.o.1);go_wp2_with fail
    refine hU.o.mono ?_;rintro en w5 ⟨rfl,jD,cH⟩;have jy:=zab (And.intro jD cH);clear jD cH;go_wp2_with fail
    go_end0
    refine ⟨rfl,?_,zad gZ.o jy.o.2⟩;have ho:=jy.o.1;rw[Hk.o,zy9 (zyN _),zy9 (Nat.le_of_eq H3.o)]at ho;rw[zaQ];exact ho
end Go.Proofs.YtgahgkddaljmkaaGreatDoor
namespace Go.Proofs.YtgahgkddaljmkaaGreatDoor
open Tryz
open Go.RowKit
variable {n:Nat}
theorem znh{e:Th.Ex}(h:e.kind=1\/e.kind=3)(ar:List (List UInt8)):Th.zar (n+1) e ar=[]:=by
 rcases h with h|h <;> simp[Th.zar,h]
theorem zuX{e:Th.Ex}(h:e.kind=2)(ar:List (List UInt8)):Th.zar (n+1) e ar=if ar.contains e.tok.s then [] else [e.tok.at_]:=by simp[Th.zar,h]
variable {e1 e2:Th.Ex}
theorem zq4{e:Th.Ex}(h:e.kind=5\/e.kind=6)(hk:e.kids=[e1,e2])(ar:List (List UInt8)):Th.zar (n+1) e ar=Th.zar n e1 ar++Th.zar n e2 ar:=by
 rcases h with h|h <;> simp[Th.zar,h,hk]
theorem zuV{e b:Th.Ex}(h:e.kind=4)(hk:e.kids=[b])(ar:List (List UInt8)):Th.zar (n+1) e ar=Th.zjc [] e.names++Th.zar n b (ar++Th.texts e.names):=by simp[Th.zar,h,hk]
theorem zuW{e b:Th.Ex}{ps:List Th.Ex}(h:e.kind=7\/e.kind=8)(hk:e.kids=b::ps)(ar:List (List UInt8)):Th.zar (n+1) e ar=Th.zbq (Th.zar n) (if (e.kind == 8) then ar++Th.texts e.names else ar) [] e.names ps++Th.zar n b (ar++Th.texts e.names):=by
 rcases h with h|h <;> simp[Th.zar,h,hk]
theorem zqa{e b:Th.Ex}{ps:List Th.Ex}(h:e.kind=9)(hk:e.kids=b::ps)(ar:List (List UInt8)):Th.zar (n+1) e ar=Th.zar n b ar++Th.zeG (Th.zar n) ar e.zao ps:=by simp[Th.zar,h,hk]
theorem zmS(x:Value)(w:World):(Instr.typeAssert (.iface 217 x) 91 215 true).run prog w=.ok (.tuple #[.agg #[.string ⟨#[]⟩,.int .i64 0],.bool false]) w:=by kernel_rfl
theorem zkO(x:Value)(w:World):(Instr.typeAssert (.iface 217 x) 91 163 true).run prog w=.ok (.tuple #[.agg #[.nilIface,.nilIface],.bool false]) w:=by kernel_rfl
theorem zgw(x:Value)(w:World):(Instr.typeAssert (.iface 217 x) 91 166 true).run prog w=.ok (.tuple #[.agg #[.string ⟨#[]⟩,.nilIface,.nilIface],.bool false]) w:=by kernel_rfl
theorem zmR(x:Value)(w:World):(Instr.typeAssert (.iface 217 x) 91 178 true).run prog w=.ok (.tuple #[.agg #[.bool false,.slice none 0 0,.nilIface],.bool false]) w:=by kernel_rfl
theorem zkP(x:Value)(w:World):(Instr.typeAssert (.iface 217 x) 91 173 true).run prog w=.ok (.tuple #[.agg #[.nilIface,.slice none 0 0],.bool false]) w:=by kernel_rfl
theorem ziz(x:Value)(w:World):(Instr.typeAssert (.iface 217 x) 91 226 true).run prog w=.ok (.tuple #[.agg #[.slice none 0 0,.nilIface],.bool false]) w:=by kernel_rfl
theorem zou(x:Value)(w:World):(Instr.typeAssert (.iface 219 x) 91 215 true).run prog w=.ok (.tuple #[.agg #[.string ⟨#[]⟩,.int .i64 0],.bool false]) w:=by kernel_rfl
theorem zmP(x:Value)(w:World):(Instr.typeAssert (.iface 219 x) 91 163 true).run prog w=.ok (.tuple #[.agg #[.nilIface,.nilIface],.bool false]) w:=by kernel_rfl
theorem zhe(x:Value)(w:World):(Instr.typeAssert (.iface 219 x) 91 166 true).run prog w=.ok (.tuple #[.agg #[.string ⟨#[]⟩,.nilIface,.nilIface],.bool false]) w:=by kernel_rfl
theorem zot(x:Value)(w:World):(Instr.typeAssert (.iface 219 x) 91 178 true).run prog w=.ok (.tuple #[.agg #[.bool false,.slice none 0 0,.nilIface],.bool false]) w:=by kernel_rfl
theorem zmQ(x:Value)(w:World):(Instr.typeAssert (.iface 219 x) 91 173 true).run prog w=.ok (.tuple #[.agg #[.nilIface,.slice none 0 0],.bool false]) w:=by kernel_rfl
theorem zj0(x:Value)(w:World):(Instr.typeAssert (.iface 219 x) 91 226 true).run prog w=.ok (.tuple #[.agg #[.slice none 0 0,.nilIface],.bool false]) w:=by kernel_rfl
theorem zr9(x:Value)(w:World):(Instr.typeAssert (.iface 215 x) 91 215 true).run prog w=.ok (.tuple #[x,.bool true]) w:=by kernel_rfl
theorem zpY(x:Value)(w:World):(Instr.typeAssert (.iface 163 x) 91 215 true).run prog w=.ok (.tuple #[.agg #[.string ⟨#[]⟩,.int .i64 0],.bool false]) w:=by kernel_rfl
theorem zoq(x:Value)(w:World):(Instr.typeAssert (.iface 163 x) 91 163 true).run prog w=.ok (.tuple #[x,.bool true]) w:=by kernel_rfl
theorem ziA(x:Value)(w:World):(Instr.typeAssert (.iface 166 x) 91 215 true).run prog w=.ok (.tuple #[.agg #[.string ⟨#[]⟩,.int .i64 0],.bool false]) w:=by kernel_rfl
theorem zh0(x:Value)(w:World):(Instr.typeAssert (.iface 166 x) 91 163 true).run prog w=.ok (.tuple #[.agg #[.nilIface,.nilIface],.bool false]) w:=by kernel_rfl
theorem zcv(x:Value)(w:World):(Instr.typeAssert (.iface 166 x) 91 166 true).run prog w=.ok (.tuple #[x,.bool true]) w:=by kernel_rfl
theorem zr8(x:Value)(w:World):(Instr.typeAssert (.iface 178 x) 91 215 true).run prog w=.ok (.tuple #[.agg #[.string ⟨#[]⟩,.int .i64 0],.bool false]) w:=by kernel_rfl
theorem zp1(x:Value)(w:World):(Instr.typeAssert (.iface 178 x) 91 163 true).run prog w=.ok (.tuple #[.agg #[.nilIface,.nilIface],.bool false]) w:=by kernel_rfl
theorem ziy(x:Value)(w:World):(Instr.typeAssert (.iface 178 x) 91 166 true).run prog w=.ok (.tuple #[.agg #[.string ⟨#[]⟩,.nilIface,.nilIface],.bool false]) w:=by kernel_rfl
theorem zr7(x:Value)(w:World):(Instr.typeAssert (.iface 178 x) 91 178 true).run prog w=.ok (.tuple #[x,.bool true]) w:=by kernel_rfl
theorem zp0(x:Value)(w:World):(Instr.typeAssert (.iface 173 x) 91 215 true).run prog w=.ok (.tuple #[.agg #[.string ⟨#[]⟩,.int .i64 0],.bool false]) w:=by kernel_rfl
theorem zor(x:Value)(w:World):(Instr.typeAssert (.iface 173 x) 91 163 true).run prog w=.ok (.tuple #[.agg #[.nilIface,.nilIface],.bool false]) w:=by kernel_rfl
theorem zhZ(x:Value)(w:World):(Instr.typeAssert (.iface 173 x) 91 166 true).run prog w=.ok (.tuple #[.agg #[.string ⟨#[]⟩,.nilIface,.nilIface],.bool false]) w:=by kernel_rfl
theorem zpZ(x:Value)(w:World):(Instr.typeAssert (.iface 173 x) 91 178 true).run prog w=.ok (.tuple #[.agg #[.bool false,.slice none 0 0,.nilIface],.bool false]) w:=by kernel_rfl
theorem zos(x:Value)(w:World):(Instr.typeAssert (.iface 173 x) 91 173 true).run prog w=.ok (.tuple #[x,.bool true]) w:=by kernel_rfl
theorem zmO(x:Value)(w:World):(Instr.typeAssert (.iface 226 x) 91 215 true).run prog w=.ok (.tuple #[.agg #[.string ⟨#[]⟩,.int .i64 0],.bool false]) w:=by kernel_rfl
theorem zkM(x:Value)(w:World):(Instr.typeAssert (.iface 226 x) 91 163 true).run prog w=.ok (.tuple #[.agg #[.nilIface,.nilIface],.bool false]) w:=by kernel_rfl
theorem zgv(x:Value)(w:World):(Instr.typeAssert (.iface 226 x) 91 166 true).run prog w=.ok (.tuple #[.agg #[.string ⟨#[]⟩,.nilIface,.nilIface],.bool false]) w:=by kernel_rfl
theorem zmN(x:Value)(w:World):(Instr.typeAssert (.iface 226 x) 91 178 true).run prog w=.ok (.tuple #[.agg #[.bool false,.slice none 0 0,.nilIface],.bool false]) w:=by kernel_rfl
theorem zkN(x:Value)(w:World):(Instr.typeAssert (.iface 226 x) 91 173 true).run prog w=.ok (.tuple #[.agg #[.nilIface,.slice none 0 0],.bool false]) w:=by kernel_rfl
theorem zix(x:Value)(w:World):(Instr.typeAssert (.iface 226 x) 91 226 true).run prog w=.ok (.tuple #[x,.bool true]) w:=by kernel_rfl
variable {w:World}{c:Nat}{o:Option Nat}{av:Value}{ae:List (List UInt8)}{A:Nat->Prop}{v:Value}
theorem znO(hc:Chk w c o)(ha:Row A w 9 1 av ae.length (strCells ae))(hv:(∃ n:Int,v=.iface 217 (.agg #[.int .i64 n]))\/∃ a b:Int,v=.iface 219 (.agg #[.int .i64 a,.int .i64 b])):
  Calls prog 71 #[.pointer (some ⟨c,0,none⟩),v,av] w fun en w'=>en=.returned (.tuple #[])/\Chk w' c o/\w.grownBy w' (some c):=by
 obtain ⟨aa,an,ac,rfl⟩:=zae ha;have HC:=zab hc;clear hc ha;rcases hv with ⟨n,rfl⟩|⟨a,b,rfl⟩
 ·have h1:=zmS;have h2:=zkO;have h3:=zgw;have h4:=zmR;have h5:=zkP;have h6:=ziz;go_enter func71,ntmps71
  go_wp2_with fail
  go_end0
  exact ⟨rfl,HC.o,zcT _ _⟩
 ·have h1:=zou;have h2:=zmP;have h3:=zhe;have h4:=zot;have h5:=zmQ;have h6:=zj0;go_enter func71,ntmps71
  go_wp2_with fail
  go_end0
  exact ⟨rfl,HC.o,zcT _ _⟩
theorem zvu(hc:Chk w c o)(ha:Row A w 9 1 av ae.length (strCells ae))(hl:ae.length<=1000000)(s:ByteArray)(p:Nat):
  Calls prog 71 #[.pointer (some ⟨c,0,none⟩),.iface 215 (.agg #[.string s,.int .i64 p]),av] w fun en w'=>en=.returned (.tuple #[])/\Chk w' c (after o (if ae.contains s.data.toList then [] else [p]))/\w.grownBy w' (some c):=by
 obtain ⟨aa,an,ac,rfl⟩:=zae ha;have HC:=zab hc;have HA:=zab ha;clear hc ha;have h1:=zr9;cases iG:ae.contains s.data.toList
 ·have vw:=zab iG;clear iG;go_enter func71,ntmps71
  go_wp2_with fail
  refine (zcJ (HA.o.1.alloc _) hl s).mono ?_;rintro e w1 ⟨rfl,rfl⟩;rw[vw.o];go_wp2_with fail
  refine (znt (Blk.alloc HC.o _) s p).mono ?_;rintro e w2 ⟨rfl,h2,aF⟩;have H2:=zab (And.intro h2 (zad (zag _ _ _) aF));clear h2 aF;go_wp2_with fail
  go_end0
  exact ⟨rfl,H2.o.1,H2.o.2⟩
 ·have vw:=zab iG;clear iG;go_enter func71,ntmps71
  go_wp2_with fail
  refine (zcJ (HA.o.1.alloc _) hl s).mono ?_;rintro e w1 ⟨rfl,rfl⟩;rw[vw.o];go_wp2_with fail
  go_end0
  refine ⟨rfl,?_,zag _ _ _⟩;rw[zbZ];exact Blk.alloc HC.o _
variable {S:Nat->Prop}{m lo dm hi:Nat}
theorem zsY(hx:zwK n){v1 v2:Value}(hc:Chk w c o)(dd:Rep S w m v1 e1)(cg:Rep S w m v2 e2)(h1:Th.In n e1 lo dm)(h2:Th.In n e2 dm hi)(ha:Row A w 9 1 av ae.length (strCells ae))(hS:¬ S c)(hA:¬ A c)(hb:ae.length+(hi-lo)<=1000000):
  Calls prog 71 #[.pointer (some ⟨c,0,none⟩),.iface 163 (.agg #[ v1,v2]),av] w fun en w'=>en=.returned (.tuple #[])/\Chk w' c (after o (Th.zar n e1 ae++Th.zar n e2 ae))/\w.grownBy w' (some c):=by
 obtain ⟨aa,an,ac,rfl⟩:=zae ha;obtain ⟨t1,x1,rfl⟩:=zah dd;obtain ⟨t2,x2,rfl⟩:=zah cg;have aL:=h1.le;have aC:=h2.le;have aN:=hc.lt;have g1:=zpY;have g2:=zoq;have g3:=zcv;have dE:=zag w (.cells #[ .iface t1 x1,.iface t2 x2] 163) (some c);have hE:=Blk.new w [ .iface t1 x1,.iface t2 x2] 163;have fE:=zab (hx _ c o _ e1 _ ae S A m lo dm (hc.gb (zag w (.cells #[ .iface t1 x1,.iface t2 x2] 163) none) (by simp)) (dd.gb dE (fun j hj=>by cases hj;exact hS)) h1 (ha.gb dE (fun j hj=>by cases hj;exact hA)) hS hA (by omega));have eP:=zab (fun (W:World) (o':Option Nat) (hW:Chk W c o') (hg:w.grownBy W (some c))=>hx W c o' _ e2 _ ae S A m dm hi hW (cg.gb hg (fun j hj=>by cases hj;exact hS)) h2 (ha.gb hg (fun j hj=>by cases hj;exact hA)) hS hA (by omega));have eQ:=zab dE;have HE:=zab hE;clear hc dd cg h1 h2 ha hS hA hx aL aC hb dE hE;go_enter func71,ntmps71
 go_wp2_with fail
 refine fE.o.mono ?_;rintro en w1 ⟨rfl,bH,bw⟩;have oJ:=Blk.cell (Blk.grown HE.o bw (by intro h;injection h with h;omega)) 1;simp at oJ;have jN:=zab (eP.o w1 _ bH (zad eQ.o bw));have gY:=zab (zad eQ.o bw);clear bH bw fE eP;go_wp2_with fail
 refine jN.o.mono ?_;rintro en w2 ⟨rfl,bT,aF⟩;have H2:=zab (And.intro bT aF);clear bT aF;go_wp2_with fail
 go_end0
 exact ⟨rfl,by rw[zaQ];exact H2.o.1,zad gY.o H2.o.2⟩
theorem zxl(hx:zwK n){v1 v2:Value}(s:ByteArray)(hc:Chk w c o)(dd:Rep S w m v1 e1)(cg:Rep S w m v2 e2)(h1:Th.In n e1 lo dm)(h2:Th.In n e2 dm hi)(ha:Row A w 9 1 av ae.length (strCells ae))(hS:¬ S c)(hA:¬ A c)(hb:ae.length+(hi-lo)<=1000000):
  Calls prog 71 #[.pointer (some ⟨c,0,none⟩),.iface 166 (.agg #[.string s ,v1,v2]),av] w fun en w'=>en=.returned (.tuple #[])/\Chk w' c (after o (Th.zar n e1 ae++Th.zar n e2 ae))/\w.grownBy w' (some c):=by
 obtain ⟨aa,an,ac,rfl⟩:=zae ha;obtain ⟨t1,x1,rfl⟩:=zah dd;obtain ⟨t2,x2,rfl⟩:=zah cg;have aL:=h1.le;have aC:=h2.le;have aN:=hc.lt;have g1:=ziA;have g2:=zh0;have g3:=zcv;have dE:=zag w (.cells #[.string s ,.iface t1 x1,.iface t2 x2] 166) (some c);have hE:=Blk.new w [.string s ,.iface t1 x1,.iface t2 x2] 166;have fE:=zab (hx _ c o _ e1 _ ae S A m lo dm (hc.gb (zag w (.cells #[.string s ,.iface t1 x1,.iface t2 x2] 166) none) (by simp)) (dd.gb dE (fun j hj=>by cases hj;exact hS)) h1 (ha.gb dE (fun j hj=>by cases hj;exact hA)) hS hA (by omega));have eP:=zab (fun (W:World) (o':Option Nat) (hW:Chk W c o') (hg:w.grownBy W (some c))=>hx W c o' _ e2 _ ae S A m dm hi hW (cg.gb hg (fun j hj=>by cases hj;exact hS)) h2 (ha.gb hg (fun j hj=>by cases hj;exact hA)) hS hA (by omega));have eQ:=zab dE;have HE:=zab hE;clear hc dd cg h1 h2 ha hS hA hx aL aC hb dE hE;go_enter func71,ntmps71
 go_wp2_with fail
 refine fE.o.mono ?_;rintro en w1 ⟨rfl,bH,bw⟩;have oJ:=Blk.cell (Blk.grown HE.o bw (by intro h;injection h with h;omega)) 2;simp at oJ;have jN:=zab (eP.o w1 _ bH (zad eQ.o bw));have gY:=zab (zad eQ.o bw);clear bH bw fE eP;go_wp2_with fail
 refine jN.o.mono ?_;rintro en w2 ⟨rfl,bT,aF⟩;have H2:=zab (And.intro bT aF);clear bT aF;go_wp2_with fail
 go_end0
 exact ⟨rfl,by rw[zaQ];exact H2.o.1,zad gY.o H2.o.2⟩
end Go.Proofs.YtgahgkddaljmkaaGreatDoor
namespace Go.Proofs.YtgahgkddaljmkaaGreatDoor
open Tryz
open Go.RowKit
attribute [local go_sem ↓] Go.wp_at_zero Go.wp_at_succ
variable {n:Nat}{w:World}{c:Nat}{o:Option Nat}{v av:Value}{l:List Th.Tok}{ae:List (List UInt8)}{S A:Nat->Prop}{m lo dm hi:Nat}
theorem zvs(hx:zwK n){nv:Value}{e:Th.Ex}(hc:Chk w c o)(hn:Row S w 88 2 nv l.length (zaj l))(hr:Rep S w m v e)(h1:Th.zcx lo dm l)(h2:Th.In n e dm hi)(ha:Row A w 9 1 av ae.length (strCells ae))(hS:¬ S c)(hA:¬ A c)(hb:ae.length+(hi-lo)<=1000000):
  Calls prog 71 #[.pointer (some ⟨c,0,none⟩),.iface 226 (.agg #[nv,v]),av] w fun en w'=>en=.returned (.tuple #[])/\Chk w' c (after o (Th.zjc [] l++Th.zar n e (ae++Th.texts l)))/\w.grownBy w' (some c):=by
 obtain ⟨aa,an,ac,rfl⟩:=zae ha;obtain ⟨na,nn,nc,rfl⟩:=zae hn;obtain ⟨t,x,rfl⟩:=zah hr;have g1:=zmO;have g2:=zkM;have g3:=zgv;have g4:=zmN;have g5:=zkN;have g6:=zix;have dE:=zag w (.cells #[.slice na nn nc,.iface t x] 226) (some c);have dn:=zab (zlw hx (hc.gb (zag w (.cells #[.slice na nn nc,.iface t x] 226) none) (by simp)) (hn.gb dE (fun j hj=>by cases hj;exact hS)) (hr.gb dE (fun j hj=>by cases hj;exact hS)) h1 h2 (ha.gb dE (fun j hj=>by cases hj;exact hA)) hS hA hb);have eQ:=zab dE;clear hc hn hr h1 h2 ha hS hA hx hb dE;go_enter func71,ntmps71
 go_wp2_with fail
 refine dn.o.mono ?_;rintro en w2 ⟨rfl,bT,aF⟩;have H2:=zab (And.intro bT aF);clear bT aF;go_wp2_with fail
 go_end0
 exact ⟨rfl,H2.o.1,zad eQ.o H2.o.2⟩
variable {r:Bool}{sv:Value}
theorem zvt(hx:zwK n){bv:Value}{parts:List Th.Ex}{pvs:List Value}{b:Th.Ex}(hc:Chk w c o)(h3:parts.length=l.length)(h4:pvs.length=l.length)(h5:Row S w 312 3 sv l.length (zaM l pvs))(h6:∀ (i:Nat) (pv:Value) (p:Th.Ex),pvs[i]?=some pv->parts[i]?=some p->Rep S w m pv p)(h7:Rep S w m bv b)(h1:Th.zbd (Th.In n) lo dm l parts)(h2:Th.In n b dm hi)(ha:Row A w 9 1 av ae.length (strCells ae))(hS:¬ S c)(hA:¬ A c)(hb:ae.length+(hi-lo)<=1000000):
  Calls prog 71 #[.pointer (some ⟨c,0,none⟩),.iface 178 (.agg #[.bool r,sv,bv]),av] w fun en w'=>en=.returned (.tuple #[])/\Chk w' c (after o (Th.zbq (Th.zar n) (if r then ae++Th.texts l else ae) [] l parts++Th.zar n b (ae++Th.texts l)))/\w.grownBy w' (some c):=by
 obtain ⟨aa,an,ac,rfl⟩:=zae ha;obtain ⟨na,nn,nc,rfl⟩:=zae h5;obtain ⟨t,x,rfl⟩:=zah h7;have g1:=zr8;have g2:=zp1;have g3:=ziy;have g4:=zr7;have dE:=zag w (.cells #[.bool r,.slice na nn nc,.iface t x] 178) (some c);have dn:=zab (zxw (r:=r) hx (hc.gb (zag w (.cells #[.bool r,.slice na nn nc,.iface t x] 178) none) (by simp)) h3 h4 (h5.gb dE (fun j hj=>by cases hj;exact hS)) (fun i pv p hp hq=>(h6 i pv p hp hq).gb dE (fun j hj=>by cases hj;exact hS)) (h7.gb dE (fun j hj=>by cases hj;exact hS)) h1 h2 (ha.gb dE (fun j hj=>by cases hj;exact hA)) hS hA hb);have eQ:=zab dE;clear hc h3 h4 h5 h6 h7 h1 h2 ha hS hA hx hb dE;generalize (Th.zbq (Th.zar n) (if r then ae++Th.texts l else ae) [] l parts++Th.zar n b (ae++Th.texts l))=L at dn ⊢;go_enter func71,ntmps71
 go_wp2_with fail
 refine dn.o.mono ?_;rintro en w2 ⟨rfl,bT,aF⟩;have H2:=zab (And.intro bT aF);clear bT aF;go_wp2_with fail
 go_end0
 exact ⟨rfl,H2.o.1,zad eQ.o H2.o.2⟩
theorem zlY(wr:Th.Ex->List (List UInt8)->List Nat)(ar:List (List UInt8)):∀ (l:List (Nat × List Th.Tok)) (es:List Th.Ex) (a:Nat × List Th.Tok) (e:Th.Ex),l.length=es.length ->
  Th.zeG wr ar (l++[a]) (es++[e])=Th.zeG wr ar l es++(Th.zjc [] a.2++wr e (ar++Th.texts a.2))
 |[],[],a,e,_=>by simp[Th.zeG]
 |x::l,y::es,a,e,h=>by
  simp only[zy7,Th.zeG];rw[zlY wr ar l es a e (by simpa using h)];simp
 |[],_::_,_,_,h=>by simp at h
 |_::_,[],_,_,h=>by simp at h
theorem zla{n:Nat}:∀ {lo hi:Nat} {l:List (Nat × List Th.Tok)} {es:List Th.Ex},Th.zcb (Th.In n) lo hi l es->∀ (k:Nat) (a:Nat × List Th.Tok) (p:Th.Ex),l[k]?=some a->es[k]?=some p->∃ dL m' eX,Th.zcx dL m' a.2/\Th.In n p m' eX/\eX - dL<=hi-lo
 |lo,hi,[],[],_,k,a,p,ha,hp=>by simp at hp
 |lo,hi,t::r,e::es,h,0,a,p,ha,hp=>by
  obtain ⟨m1,m2,h1,h2,h3⟩:=h;simp only[zzl,zyP]at ha hp;subst ha hp;have:=Th.zcb.len h3;have:=Th.In.le h2;exact ⟨_,_,_,h1,h2,by omega⟩
 |lo,hi,t::r,e::es,h,k+1,a,p,ha,hp=>by
  obtain ⟨m1,m2,h1,h2,h3⟩:=h;have:=Th.zcb.len h3;have:=Th.In.le h2;have:=Th.zcx.len h1;obtain ⟨dL,m',eX,h4,h5,h6⟩:=zla h3 k a p (by simpa using ha) (by simpa using hp);exact ⟨dL,m',eX,h4,h5,by omega⟩
 |_,_,[],_::_,h,_,_,_,_,_=>h.elim
 |_,_,_::_,[],h,_,_,_,_,_=>h.elim
variable {nvs bvs:List Value}
theorem zsZ(hx:zwK n){cv:Value}{zao:List (Nat × List Th.Tok)}{ag:List Th.Ex}{b:Th.Ex}(hc:Chk w c o)(h3:ag.length=zao.length)(h4:nvs.length=zao.length)(h5:bvs.length=zao.length)(h6:Row S w 240 3 sv zao.length (za7 zao nvs bvs))(h7:∀ (i:Nat) (a:Nat × List Th.Tok) (nv:Value),zao[i]?=some a->nvs[i]?=some nv->Row S w 88 2 nv a.2.length (zaj a.2))(h8:∀ (i:Nat) (bv:Value) (p:Th.Ex),bvs[i]?=some bv->ag[i]?=some p->Rep S w m bv p)(h9:Rep S w m cv b)(h1:Th.In n b lo dm)(h2:Th.zcb (Th.In n) dm hi zao ag)(ha:Row A w 9 1 av ae.length (strCells ae))(hS:¬ S c)(hA:¬ A c)(hb:ae.length+(hi-lo)<=1000000):
  Calls prog 71 #[.pointer (some ⟨c,0,none⟩),.iface 173 (.agg #[cv,sv]),av] w fun en w'=>en=.returned (.tuple #[])/\Chk w' c (after o (Th.zar n b ae++Th.zeG (Th.zar n) ae zao ag))/\w.grownBy w' (some c):=by
 have aL:=h1.le;have aC:=h2.len;have aU:zao.length<=1000000:=by omega
 have aN:=hc.lt;obtain ⟨aa,an,ac,rfl⟩:=zae ha;have eM:=zan h6;obtain ⟨sa,sn,sc,rfl⟩:=zae h6;obtain ⟨t,x,rfl⟩:=zah h9;have fD:Hid (sn=zao.length):=zab (by
  rcases h6.1.2 with ⟨h,h0⟩|⟨_,_,_,h0,_⟩
  ·cases h;exact h0.symm
  ·cases h0;rfl)
 have g1:=zp0;have g2:=zor;have g3:=zhZ;have g4:=zpZ;have g5:=zos;have dE:=zag w (.cells #[.iface t x,.slice sa sn sc] 173) (some c);have HE:=zab (Blk.new w [.iface t x,.slice sa sn sc] 173);have fE:=zab (hx _ c o _ b _ ae S A m lo dm (hc.gb (zag w (.cells #[.iface t x,.slice sa sn sc] 173) none) (by simp)) (h9.gb dE (fun j hj=>by cases hj;exact hS)) h1 (ha.gb dE (fun j hj=>by cases hj;exact hA)) hS hA (by omega));have eQ:=zab dE;have H3:=zab h3;have H4:=zab h4;have H5:=zab h5;have H6:=zab h6;have H7:=zab h7;have H8:=zab h8;have HA:=zab ha;have HI:=zab (And.intro h2 (And.intro hS hA));have HL:Hid (ae.length+(hi-dm)<=1000000):=zab (by omega);have HX:=zab hx;clear hc h3 h4 h5 h6 h7 h8 h9 h1 h2 ha hS hA hx hb dE aL aC;go_enter func71,ntmps71
 go_wp2_with fail
 refine fE.o.mono ?_;rintro en w1 ⟨rfl,bH,bw⟩;have e1:=Blk.cell (Blk.grown HE.o bw (by intro h;injection h with h;omega)) 1;simp at e1;have gY:=zab (zad eQ.o bw);have lR:=zab bH;have cT:=(zad eQ.o bw).size;clear bH bw fE HE eQ;go_wp2_with fail
 have aK:=fD.o;subst aK
 go_loopg [72] zao.length (fun gk i wr=>∃ k:Nat,i=.int .i64 k/\k<=zao.length/\zao.length-k<=gk/\Chk wr c (after (after o (Th.zar n b ae)) (Th.zeG (Th.zar n) ae (zao.take k) (ag.take k)))/\w1.grownBy wr (some c))
 case atStart=>exact ⟨0,rfl,zy5 _,by omega,by rw[zzR,zzR,show Th.zeG (Th.zar n) ae [] []=[] from rfl,zbZ];exact lR.o,zcT _ _⟩
 case round=>
  obtain ⟨k,rfl,hk,jm,fV,hg⟩:=hrel;have jQ:=zab fV;have Hg:=zab hg;have cT:=hg.size;by_cases aj:k<zao.length
  ·obtain ⟨g,jw⟩:∃ g,sa=some ⟨g,0,none⟩:=by
    rcases eM with h|⟨g,cap,h⟩
    ·have:=(Value.slice.inj h).2.1;omega
    ·exact ⟨g,(Value.slice.inj h).1⟩
   subst jw;obtain ⟨a,ke⟩:∃ a,zao[k]?=some a:=⟨zao[k],zyM aj⟩;obtain ⟨p,hp⟩:∃ p,ag[k]?=some p:=⟨_,zyM (by rw[H3.o];exact aj)⟩;obtain ⟨nv,ay⟩:∃ nv,nvs[k]?=some nv:=⟨_,zyM (by rw[H4.o];exact aj)⟩;obtain ⟨bv,cC⟩:∃ bv,bvs[k]?=some bv:=⟨_,zyM (by rw[H5.o];exact aj)⟩;have fq:=zad gY.o hg;have aR:=(H8.o k bv p cC hp).gb fq (fun j hj=>by cases hj;exact HI.o.2.1);have eH:=(H7.o k a nv ke ay).gb fq (fun j hj=>by cases hj;exact HI.o.2.1);obtain ⟨pt,px,rfl⟩:=zah aR;obtain ⟨na,nn,nc,rfl⟩:=zae eH;have aE:=zdx zao nvs bvs k a _ _ ke ay cC;have af:=(H6.o.gb fq (fun j hj=>by cases hj;exact HI.o.2.1)).1;have c0:=(af.cellAt (k*3) (by omega)).trans aE.1;have c1:=(af.cellAt (k*3+1) (by omega)).trans aE.2.1;have c2:=(af.cellAt (k*3+2) (by omega)).trans aE.2.2;have fX:=(af.lt g rfl).2;obtain ⟨dL,m',eX,bJ,hin,dq⟩:=zla HI.o.1 k a p ke hp;have cH:=zag wr (.cells #[.int .i64 a.1,.slice na nn nc,.iface pt px] 240) (some c);have dn:=zab (zlw HX.o (fV.gb (zag wr (.cells #[.int .i64 a.1,.slice na nn nc,.iface pt px] 240) none) (by simp)) (eH.gb cH (fun j hj=>by cases hj;exact HI.o.2.1)) (aR.gb cH (fun j hj=>by cases hj;exact HI.o.2.1)) bJ hin (HA.o.gb (zad fq cH) (fun j hj=>by cases hj;exact HI.o.2.2)) HI.o.2.1 HI.o.2.2 (by have:=HL.o;omega));have lS:=zab (zad hg cH);have Ht:=zab (zaJ ke);have Hp:=zab (zaJ hp);have Hd:Hid (Th.zeG (Th.zar n) ae (zao.take (k+1)) (ag.take (k+1))=Th.zeG (Th.zar n) ae (zao.take k) (ag.take k)++(Th.zjc [] a.2++Th.zar n p (ae++Th.texts a.2))):=zab (by
    rw[Ht.o,Hp.o,zlY _ _ _ _ _ _ (by have:=H3.o;simp;omega)])
   clear fV hg ke hp ay cC fq aR eH aE af bJ hin dq cH e1 eM fD;go_wp2_with fail
   refine dn.o.mono ?_;rintro en w5 ⟨rfl,jD,cH⟩;have jy:=zab (And.intro jD cH);clear jD cH;go_wp2_with fail
   go_roundg (zao.length-(k+1))
   case measure=>omega
   case rel=>
    refine ⟨k+1,by go_num,by omega,zyN _,?_,zad lS.o jy.o.2⟩;rw[Hd.o,zaQ];exact jy.o.1
  ·have aG:k=zao.length:=by omega
   have Hk:=zab aG;clear fV hg aG;go_wp2_with fail
   go_end0
   refine ⟨rfl,?_,zad gY.o Hg.o⟩;have ho:=jQ.o;rw[Hk.o,zy9 (zyN _),zy9 (Nat.le_of_eq H3.o)]at ho;rw[zaQ];exact ho
theorem zqq:∀ (n:Nat),zwK n
 |0=>fun _ _ _ _ _ _ _ _ _ _ _ _ _ _ h=>h.elim
 |n+1=>fun w c o v e av ae S A m lo hi hc hr hin ha hS hA hb=>by
  have ih:=zqq n;rcases m with _|m
  ·exact hr.elim
  obtain ⟨hle,hin⟩:=hin;rcases hr with ⟨hk,rfl⟩|⟨hk,rfl⟩|⟨hk,rfl⟩|⟨hk,sv,bv,b,h1,rfl,h3,h4⟩|⟨hk,v1,v2,e1,e2,h1,rfl,h3,h4⟩|⟨hk,v1,v2,e1,e2,h1,rfl,h3,h4⟩|⟨hk,sv,bv,b,parts,pvs,h1,rfl,h3,h4,h5,h6,h7⟩|⟨hk,cv,sv,b,ag,nvs,bvs,h1,rfl,h3,h4,h5,h6,h7,h8,h9⟩
  ·rw[znh (.inl hk),zbZ];exact znO hc ha (.inl ⟨_,rfl⟩)
  ·rw[zuX hk];exact zvu hc ha (by omega) ⟨e.tok.s.toArray⟩ e.tok.at_
  ·rw[znh (.inr hk),zbZ];exact znO hc ha (.inr ⟨_,_,rfl⟩)
  ·rw[zuV hk h1];rcases hin with h|h|⟨_,b',dm,i1,i2,i3⟩|⟨h,_⟩|⟨h,_⟩|⟨h,_⟩
   ·omega
   ·omega
   ·rw[h1]at i1;cases i1;exact zvs ih hc h3 h4 i2 i3 ha hS hA hb
   ·omega
   ·omega
   ·omega
  ·rw[zq4 (.inl hk) h1];rcases hin with h|h|⟨h,_⟩|⟨_,a1,a2,dm,i1,i2,i3⟩|⟨h,_⟩|⟨h,_⟩
   ·omega
   ·omega
   ·omega
   ·rw[h1]at i1;cases i1;exact zsY ih hc h3 h4 i2 i3 ha hS hA hb
   ·omega
   ·omega
  ·rw[zq4 (.inr hk) h1];rcases hin with h|h|⟨h,_⟩|⟨_,a1,a2,dm,i1,i2,i3⟩|⟨h,_⟩|⟨h,_⟩
   ·omega
   ·omega
   ·omega
   ·rw[h1]at i1;cases i1;exact zxl ih _ hc h3 h4 i2 i3 ha hS hA hb
   ·omega
   ·omega
  ·rw[zuW hk h1];rcases hin with h|h|⟨h,_⟩|⟨h,_⟩|⟨_,b',ps,dm,i1,i2,i3⟩|⟨h,_⟩
   ·omega
   ·omega
   ·omega
   ·omega
   ·rw[h1]at i1;cases i1;exact zvt ih hc h3 h4 h5 h6 h7 i2 i3 ha hS hA hb
   ·omega
  ·rw[zqa hk h1];rcases hin with h|h|⟨h,_⟩|⟨h,_⟩|⟨h,_⟩|⟨_,b',ps,dm,i1,i2,i3⟩
   ·omega
   ·omega
   ·omega
   ·omega
   ·omega
   ·rw[h1]at i1;cases i1;exact zsZ ih hc h3 h4 h5 h6 h7 h8 h9 i2 i3 ha hS hA hb
def Th.zbM (n:Nat):Nat->Nat->List Th.zbr->Prop
 |lo,hi,[]=>lo<=hi
 |lo,hi,x::r=>lo<=x.name.at_/\∃ m1 m2,Th.zcx (x.name.at_+1) m1 x.params/\Th.In n x.e m1 m2/\Th.zbM n m2 hi r
theorem zec{n:Nat}:∀ {lo hi:Nat} {l:List Th.zbr},Th.zbM n lo hi l->lo+l.length<=hi
 |lo,hi,[],h=>h
 |lo,hi,x::r,h=>by
  obtain ⟨h0,m1,m2,h1,h2,h3⟩:=h;have:=zec h3;have:=Th.In.le h2;have:=Th.zcx.len h1;simp;omega
theorem ziY{n:Nat}:∀ {lo hi:Nat} {l:List Th.zbr},Th.zbM n lo hi l->∀ (k:Nat) (x:Th.zbr),l[k]?=some x->∃ m0 m1 m2,Th.zcx m0 m1 x.params/\Th.In n x.e m1 m2/\m2-m0<=hi-lo
 |lo,hi,[],_,k,x,hx=>by simp at hx
 |lo,hi,y::r,h,0,x,hx=>by
  obtain ⟨h0,m1,m2,h1,h2,h3⟩:=h;simp only[zzl,zyP]at hx;subst hx;have:=zec h3;have:=Th.In.le h2;have:=Th.zcx.len h1;exact ⟨_,_,_,h1,h2,by omega⟩
 |lo,hi,y::r,h,k+1,x,hx=>by
  obtain ⟨h0,m1,m2,h1,h2,h3⟩:=h;have:=Th.In.le h2;have:=Th.zcx.len h1;obtain ⟨a,b,c,i1,i2,i3⟩:=ziY h3 k x (by simpa using hx);exact ⟨a,b,c,i1,i2,by omega⟩
theorem zkn(n:Nat)(all:List (List UInt8)):∀ (seen:List (List UInt8)) (l:List Th.zbr) (x:Th.zbr),Th.zbL n all seen (l++[x])=Th.zbL n all seen l++((if (seen++Th.zaq l).contains x.name.s then [x.name.at_] else [])++Th.zjc [] x.params++Th.zar n x.e (all++Th.texts x.params))
 |seen,[],x=>by simp[Th.zbL,Th.zaq]
 |seen,y::l,x=>by
  simp only[zy7,Th.zbL];rw[zkn n all (seen++[y.name.s]) l x];simp[Th.zaq]
theorem zsG{w':World}{o:Obj}(h:(w.alloc o).grownBy w' (some w.heap.size)):Below w.heap.size w w':=
 ⟨h.os,h.tape,h.output,zyR (zag w o none).size h.size,fun k hk=>(h.block k (zyS hk (zag w o none).size) (by intro e;injection e with e;omega)).trans ((zag w o none).block k hk (by simp))⟩
theorem zkA{pv:Value}{l:List Th.zbr}{S1 S2:Nat->Prop}(hr:Row S1 w 93 4 pv l.length (zaR l nvs bvs))(h1:nvs.length=l.length)(h2:bvs.length=l.length)(aR:zdv S2 w m l nvs bvs)(hin:Th.zbM n lo hi l)(hb:hi-lo<=100000):
  Calls prog 42 #[pv] w fun e w'=>e=.returned (.tuple #[.int .i64 ((Th.zbL n (Th.zaq l) [] l).head?.getD 0),.bool (Th.zbL n (Th.zaq l) [] l).head?.isSome])/\Below w.heap.size w w':=by
 have aL:=zec hin;have lp:l.length<=100000:=by omega
 have ju:Row (fun b=>b<w.heap.size) w 93 4 pv l.length (zaR l nvs bvs):=hr.mono (fun k hk _=>hk);have nW:zdv (fun b=>b<w.heap.size) w m l nvs bvs:=fun i x nv bv a b c=>⟨(aR i x nv bv a b c).1.mono (fun k hk _=>hk),(aR i x nv bv a b c).2.mono (fun k hk _=>hk)⟩
 have bR:∀ (i:Nat) (nv bv:Value),nvs[i]?=some nv->bvs[i]?=some bv->nv.oneCell'=true/\bv.oneCell'=true:=fun i nv bv hp hq=>by
  have:i<l.length:=by rw[<-h1];exact (zyL.1 hp).1
  have hh:=aR i l[i] nv bv (zyM this) hp hq;refine ⟨?_,(ztU hh.2).one⟩;obtain ⟨_,_,_,rfl⟩:=zae hh.1;rfl
 have hC:Chk (w.alloc (.cells #[.bool false,.int .i64 0] 140)) w.heap.size none:=Blk.new w [.bool false,.int .i64 0] _;have dE:=zag w (.cells #[.bool false,.int .i64 0] 140) none;have fj:=zab (zdS (ju.gb dE (by simp)) h1 h2 bR (by omega));have eM:=zan hr;obtain ⟨sa,sn,sc,rfl⟩:=zae hr;have fD:Hid (sn=l.length):=zab (by
  rcases hr.1.2 with ⟨h,h0⟩|⟨_,_,_,h0,_⟩
  ·cases h;exact h0.symm
  ·cases h0;rfl)
 have HC:=zab hC;have HR:=zab ju;have dT:=zab nW;have H1:=zab h1;have H2:=zab h2;have oz:=zab hin;clear hr ju aR nW h1 h2 hin bR hC dE aL;go_enter func42,ntmps42
 go_wp2_with fail
 refine fj.o.mono ?_;rintro en w1 ⟨tv,rfl,eC,aA⟩;obtain ⟨ta,tn,tc,rfl⟩:=zae (Row.zaE eC);have hz:w.heap.size<w1.heap.size:=zyS HC.o.lt aA.size;have lR:=zab (HC.o.below aA);have gY:=zab (zad (zag w (.cells #[.bool false,.int .i64 0] 140) (some w.heap.size)) (zaf (some w.heap.size) aA));have vD:=zab (zaf (some w.heap.size) aA);have HT:Hid (w1.ownsRow (w.heap.size+1) 9 1 (.slice ta tn tc) l.length (strCells (Th.zaq l))):=zab (by
  have:=eC;rw[show (w.alloc (.cells #[.bool false,.int .i64 0] 140)).heap.size=w.heap.size+1 by simp]at this;exact this)
 clear eC aA fj HC;go_wp2_with fail
 have aK:=fD.o;subst aK
 go_loopg [14] l.length (fun gk i wr=>∃ k:Nat,i=.int .i64 k/\k<=l.length/\l.length-k<=gk/\Chk wr w.heap.size (Th.zbL n (Th.zaq l) [] (l.take k)).head?/\w1.grownBy wr (some w.heap.size))
 case atStart=>exact ⟨0,rfl,zy5 _,by omega,lR.o,zcT _ _⟩
 case round=>
  obtain ⟨k,rfl,hk,jm,fV,hg⟩:=hrel;have jQ:=zab fV;have Hg:=zab hg;have cT:=hg.size;by_cases aj:k<l.length
  ·obtain ⟨g,jw⟩:∃ g,sa=some ⟨g,0,none⟩:=by
    rcases eM with h|⟨g,cap,h⟩
    ·have:=(Value.slice.inj h).2.1;omega
    ·exact ⟨g,(Value.slice.inj h).1⟩
   subst jw;have ib:=HT.o;obtain ⟨g2,tf⟩:∃ g2,ta=some ⟨g2,0,none⟩/\tn=l.length:=by
    rcases zan (Row.zaE ib) with h|⟨g2,cap,h⟩
    ·rcases ib.2 with ⟨_,h0⟩|⟨_,_,_,h0,_⟩
     ·omega
     ·rw[h]at h0;cases h0
    ·cases h;exact ⟨g2,rfl,rfl⟩
   obtain ⟨rfl,rfl⟩:=tf;have fq:=zad gY.o hg;have jT:¬ ((fun b=>b<w.heap.size) w.heap.size):=Nat.lt_irrefl _;obtain ⟨x,jM⟩:∃ x,l[k]?=some x:=⟨l[k],zyM aj⟩;obtain ⟨nv,ay⟩:∃ nv,nvs[k]?=some nv:=⟨_,zyM (by rw[H1.o];exact aj)⟩;obtain ⟨bv,cC⟩:∃ bv,bvs[k]?=some bv:=⟨_,zyM (by rw[H2.o];exact aj)⟩;have eH:=(dT.o k x nv bv jM ay cC).1.gb fq (fun j hj=>by cases hj;exact jT);have aR:=(dT.o k x nv bv jM ay cC).2.gb fq (fun j hj=>by cases hj;exact jT);obtain ⟨pt,px,rfl⟩:=zah aR;obtain ⟨na,nn,nc,rfl⟩:=zae eH;have aE:=zcm l nvs bvs k x _ _ jM ay cC;have af:=(HR.o.gb fq (fun j hj=>by cases hj;exact jT)).1;have c0:=(af.cellAt (k*4) (by omega)).trans aE.1;have c1:=(af.cellAt (k*4+1) (by omega)).trans aE.2.1;have c2:=(af.cellAt (k*4+2) (by omega)).trans aE.2.2.1;have c3:=(af.cellAt (k*4+3) (by omega)).trans aE.2.2.2;have fX:=(af.lt g rfl).2;obtain ⟨m0,m1,m2,bJ,hin,dq⟩:=ziY oz.o k x jM;have kT:l.length<=tc:=by
    rcases ib.2 with ⟨h0,_⟩|⟨_,_,_,h0,_,_,hn,_⟩
    ·cases h0
    ·cases h0;exact hn
   have dF:(0:Int)<=(k:Int):=zzN _;have cK:(k:Int)<=(tc:Int):=by omega
   have kL:=ib.kept hg (zdi ib (Nat.lt_succ_self _));have gl:=zg6 kL (i:=k) (by omega);rw[show (strCells (Th.zaq l)).take k=strCells (Th.zaq (l.take k)) by simp[strCells,Th.zaq]]at gl;have oE:Hid (wr.ownsRow (w.heap.size+1) 9 1 (.slice (some ⟨g2,0,none⟩) k tc) (Th.zaq (l.take k)).length (strCells (Th.zaq (l.take k)))):=zab (by
    rw[show (Th.zaq (l.take k)).length=k by simp[Th.zaq];omega];exact gl)
   have CZ:Hid (Row (fun b=>w.heap.size+1<=b) wr 9 1 (.slice (some ⟨g2,0,none⟩) l.length tc) (Th.zaq l).length (strCells (Th.zaq l))):=zab (by
    rw[show (Th.zaq l).length=l.length by simp[Th.zaq]];exact Row.zaE kL)
   have dn:=zab (fun (W:World) (hW:Chk W w.heap.size (Th.zbL n (Th.zaq l) [] (l.take k)).head?) (hR:W.ownsRow (w.heap.size+1) 9 1 (.slice (some ⟨g2,0,none⟩) k tc) (Th.zaq (l.take k)).length (strCells (Th.zaq (l.take k))))=>zgW hW ⟨x.name.s.toArray⟩ x.name.at_ hR (by simp[Th.zaq];omega));have Ht:=zab (zaJ jM);have Hd:Hid ((Th.zbL n (Th.zaq l) [] (l.take (k+1))).head?=after (after (after (Th.zbL n (Th.zaq l) [] (l.take k)).head? (if (Th.zaq (l.take k)).contains x.name.s then [x.name.at_] else [])) (Th.zjc [] x.params)) (Th.zar n x.e (Th.zaq l++Th.texts x.params))):=zab (by
    rw[Ht.o,zkn,<-zaQ,<-zaQ];simp only[zzb,zzk];cases Th.zbL n (Th.zaq l) [] (l.take k) <;> rfl)
   have GP:x.params.length<=100000:=by have:=bJ.len;have:=hin.le;omega
   have HX:=zab (fun (W:World) (o:Option Nat) (av:Value) (B:Nat->Prop) (hW:Chk W w.heap.size o) (sj:wr.grownBy W (some w.heap.size)) (hB:Row B W 9 1 av (Th.zaq l++Th.texts x.params).length (strCells (Th.zaq l++Th.texts x.params))) (DS:¬ B w.heap.size)=>zqq n W w.heap.size o _ x.e av _ _ B m m1 m2 hW (aR.gb sj (fun j hj=>by cases hj;exact jT)) hin hB jT DS (by have:=bJ.len;simp[Th.zaq,Th.texts];omega));have HD:=zab (fun (W:World) (o:Option Nat) (hW:Chk W w.heap.size o) (sj:wr.grownBy W (some w.heap.size))=>zia hW (eH.gb sj (fun j hj=>by cases hj;exact jT)) jT (by omega));have C6:=zab (fun (W:World) (sj:wr.grownBy W (some w.heap.size))=>ze4 (eH.gb sj (fun j hj=>by cases hj;exact jT)) (by omega));have pV:Hid (w.heap.size≠wr.heap.size):=zab (by omega);have HF:=zab (Blk.new wr [.string ⟨x.name.s.toArray⟩,.int .i64 x.name.at_,.slice na nn nc,.iface pt px] 93);clear fV hg jM ay cC fq aR eH aE af bJ hin dq ib kL gl eM fD;go_wp2_with fail
   go_region_with (go_at_call 69;refine (dn.o _ ?_ ?_).mono ?_;exact Blk.drew (Blk.alloc jQ.o _);exact (oE.o.alloc _).drew;rintro e w3 ⟨rfl,h3,aS⟩;have H3:=zab h3;have gC:=zab (zad (zad (zag wr (.cells #[.string ⟨x.name.s.toArray⟩,.int .i64 x.name.at_,.slice na nn nc,.iface pt px] 93) _) (zbO _ _)) aS);have qs:=zab (Blk.grown (Blk.drew HF.o) aS (by intro h;injection h with h;exact pV.o h.symm));clear h3 aS)
   all_goals
    have p2:=Blk.cell qs.o 2;simp at p2;go_wp2_with fail
    refine (HD.o w3 _ H3.o gC.o).mono ?_;rintro en w4 ⟨rfl,jj,bM⟩;have gZ:=zab (zad gC.o bM);have pF:=zab (Blk.grown qs.o bM (by intro h;injection h with h;exact pV.o h.symm));have yP:=zab jj;have q2:=Blk.cell pF.o 2;have q3:=Blk.cell pF.o 3;have bV:=pF.o.lt;simp at q2 q3;clear jj bM p2 H3 gC qs HD c0 c1 c2 c3;go_wp2_with fail
    go_region_with (first
     |(go_at_call 52;refine (C6.o _ ?_).mono ?_;exact zad gZ.o (zbO _ _);rintro Gi w5 ⟨Hj,rfl,h5,b5⟩;obtain ⟨xa,xn,xc,rfl⟩:=zae (Row.zaE h5);have lS:=zab (zad (zad gZ.o (zbO _ _)) (zaf (some w.heap.size) b5));have yQ:=zab ((Blk.drew yP.o).below b5 yP.o.lt);have vz:=zab ((Blk.drew pF.o).below b5 bV);have r3:=Blk.cell vz.o 3;have fC:w4.heap.size<=w5.heap.size:=b5.size;have GH:wr.heap.size<w5.heap.size:=zyS bV fC;have C0:Hid (w5.ownsRow w4.heap.size 9 1 (.slice xa xn xc) (Th.texts x.params).length (strCells (Th.texts x.params))):=zab (by simpa [Th.texts] using h5);simp at r3;clear h5 b5)
     |(go_at_call 72;refine (zfs (CZ.o.gb lS.o (fun j hj=>by cases hj;exact Nat.not_succ_le_self _)) (Row.zaE C0.o) (by simp[Th.zaq];omega) (by simp[Th.texts];omega)).mono ?_;rintro Gj w6 ⟨ka,kn,kc,rfl,h6,b6⟩;have kb:=zab (zad lS.o (zaf (some w.heap.size) b6));have BH:=zab (yQ.o.below b6 yQ.o.lt);have Cj:=zab h6;have s3:=Blk.cell (vz.o.below b6 vz.o.lt) 3;simp at s3;clear h6 b6)
     |(go_at_call 71;refine (HX.o w6 _ _ _ BH.o kb.o Cj.o ?_).mono ?_;exact fun (h:w5.heap.size<=w.heap.size)=>absurd h (by omega);rintro Gk w7 ⟨rfl,h7,g7⟩;have BI:=zab h7;have qv:=zab (zad kb.o g7);clear h7 g7))
    all_goals
     go_wp2_with fail
     go_roundg (l.length-(k+1))
     case measure=>omega
     case rel=>
      refine ⟨k+1,by go_num,by omega,zyN _,?_,zad Hg.o qv.o⟩;rw[Hd.o];exact BI.o
  ·have aG:k=l.length:=by omega
   have Hk:=zab aG;have c0:=Blk.cell fV 0;have c1:=Blk.cell fV 1;simp at c0 c1;have Cc:=zab (zsG (o:=.cells #[.bool false,.int .i64 0] 140) (zad vD.o hg));rw[aG,zy9 (zyN _)]at c0 c1;obtain ⟨hd,kh⟩:∃ hd,(Th.zbL n (Th.zaq l) [] l).head?=hd:=⟨_,rfl⟩;rw[kh]at c0 c1;have ox:=zab kh;clear kh;clear fV hg aG jQ;cases hd
   all_goals
    simp at c0 c1;go_wp2_with fail
    go_region_with fail
    all_goals
     go_wp2_with fail
     go_ret2
     refine ⟨by rw[ox.o];kernel_rfl,zbk (zad (zaf none Cc.o) (zbO _ _))⟩
def Th.zbl:List Th.zbr->Bool
 |[]=>false
 |x::r=>if x.name.s == Th.zcO then x.params.isEmpty else Th.zbl r
theorem zid:∀ (l:List Th.zbr) (k:Nat) (x:Th.zbr),(∀ y∈l.take k,y.name.s≠Th.zcO)->l[k]?=some x->x.name.s=Th.zcO->Th.zbl l=x.params.isEmpty
 |[],k,x,_,h,_=>by simp at h
 |y::l,0,x,_,h,hx=>by
  simp only[zzl,zyP]at h;subst h;simp[Th.zbl,hx]
 |y::l,k+1,x,hn,h,hx=>by
  have h1:y.name.s≠Th.zcO:=hn y (by simp);simp only[Th.zbl];rw[if_neg (by simpa using h1)];exact zid l k x (fun z hz=>hn z (by simp[hz])) (by simpa using h) hx
theorem zf7:∀ (l:List Th.zbr),(∀ y∈l,y.name.s≠Th.zcO)->Th.zbl l=false
 |[],_=>rfl
 |y::l,hn=>by
  have h1:y.name.s≠Th.zcO:=hn y (by simp);simp only[Th.zbl];rw[if_neg (by simpa using h1)];exact zf7 l (fun z hz=>hn z (by simp[hz]))
theorem zpv{pv:Value}{l:List Th.zbr}{S1 S2:Nat->Prop}(hr:Row S1 w 93 4 pv l.length (zaR l nvs bvs))(h1:nvs.length=l.length)(h2:bvs.length=l.length)(aR:zdv S2 w m l nvs bvs)(lp:l.length<=100000):
  Calls prog 43 #[pv] w fun e w'=>e=.returned (.bool (Th.zbl l))/\Below w.heap.size w w':=by
 have eM:=zan hr;obtain ⟨sa,sn,sc,rfl⟩:=zae hr;have fD:Hid (sn=l.length):=zab (by
  rcases hr.1.2 with ⟨h,h0⟩|⟨_,_,_,h0,_⟩
  ·cases h;exact h0.symm
  ·cases h0;rfl)
 have HR:=zab hr;have dT:=zab aR;have H1:=zab h1;have H2:=zab h2;clear hr aR h1 h2;go_enter func43,ntmps43
 go_wp2_with fail
 have aK:=fD.o;subst aK
 go_loopg [7] l.length (fun gk i wr=>∃ k:Nat,i=.int .i64 k/\k<=l.length/\l.length-k<=gk/\(∀ y∈l.take k,y.name.s≠Th.zcO)/\Below w.heap.size w wr)
 case atStart=>exact ⟨0,rfl,zy5 _,by omega,by simp,Below.refl _ _⟩
 case round=>
  obtain ⟨k,rfl,hk,jm,bu,hg⟩:=hrel;have Hg:=zab hg;have bW:=zab bu;have cT:=hg.size;by_cases aj:k<l.length
  ·obtain ⟨g,jw⟩:∃ g,sa=some ⟨g,0,none⟩:=by
    rcases eM with h|⟨g,cap,h⟩
    ·have:=(Value.slice.inj h).2.1;omega
    ·exact ⟨g,(Value.slice.inj h).1⟩
   subst jw;obtain ⟨x,jM⟩:∃ x,l[k]?=some x:=⟨l[k],zyM aj⟩;obtain ⟨nv,ay⟩:∃ nv,nvs[k]?=some nv:=⟨_,zyM (by rw[H1.o];exact aj)⟩;obtain ⟨bv,cC⟩:∃ bv,bvs[k]?=some bv:=⟨_,zyM (by rw[H2.o];exact aj)⟩;have fq:=zaf none hg;have eH:=(dT.o k x nv bv jM ay cC).1.gb fq (by simp);have aR:=(dT.o k x nv bv jM ay cC).2.gb fq (by simp);obtain ⟨pt,px,rfl⟩:=zah aR;obtain ⟨na,nn,nc,rfl⟩:=zae eH;have iZ:nn=x.params.length:=by
    rcases eH.1.2 with ⟨h,h0⟩|⟨_,_,_,h0,_⟩
    ·cases h;exact h0.symm
    ·cases h0;rfl
   have aE:=zcm l nvs bvs k x _ _ jM ay cC;have af:=(HR.o.gb fq (by simp)).1;have c0:=(af.cellAt (k*4) (by omega)).trans aE.1;have c1:=(af.cellAt (k*4+1) (by omega)).trans aE.2.1;have c2:=(af.cellAt (k*4+2) (by omega)).trans aE.2.2.1;have c3:=(af.cellAt (k*4+3) (by omega)).trans aE.2.2.2;have fX:=(af.lt g rfl).2;have Db:=zab jM;by_cases hx:x.name.s=Th.zcO
   ·have HX:=zab hx;have uP:Hid (x.params.isEmpty=decide (nn=0)):=zab (by rw[iZ];cases x.params <;> rfl);rw[show (x.name.s.toArray)=#[109,97,105,110] by rw[hx];rfl]at c0;clear bu hg jM ay cC fq aR eH aE af eM fD hx iZ;go_wp2_with fail
    go_ret
    refine ⟨?_,zbk (zad (zaf none Hg.o) (zag _ _ _))⟩;rw[zid l k x bW.o Db.o HX.o,uP.o];show Ending.returned (.bool ((nn:Int) == 0))=Ending.returned (.bool (decide (nn=0)));congr 2;rw[zAa];simp
   ·have HX:=zab hx;have aH:(x.name.s == [109,97,105,110])=false:=by
     rw[beq_eq_false_iff_ne];exact hx
    have Ht:=zab (zaJ jM);clear bu hg jM ay cC fq aR eH aE af eM fD hx iZ;go_wp2_with fail
    go_roundg (l.length-(k+1))
    case measure=>omega
    case rel=>
     refine ⟨k+1,by go_num,by omega,zyN _,?_,zbk (zad (zaf none Hg.o) (zag _ _ _))⟩;rw[Ht.o];intro y hy;rcases zzi.1 hy with hy|hy
     ·exact bW.o y hy
     ·rw[zze.1 hy];exact HX.o
  ·have aG:k=l.length:=by omega
   have Hk:=zab aG;clear bu hg aG;go_wp2_with fail
   go_ret
   refine ⟨?_,Hg.o⟩;have ho:=bW.o;rw[Hk.o,zy9 (zyN _)]at ho;rw[zf7 l ho];rfl
end Go.Proofs.YtgahgkddaljmkaaGreatDoor
