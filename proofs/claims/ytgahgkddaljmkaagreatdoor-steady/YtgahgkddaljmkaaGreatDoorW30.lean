/- Cmp49 .. Scope6 -/
import Derived.Test.YtgahgkddaljmkaaGreatDoorW29
set_option maxRecDepth 100000
set_option maxHeartbeats 4000000
namespace Go.Proofs.YtgahgkddaljmkaaGreatDoor
open Tryz
open Go.RowKit
namespace Cp
theorem zlz{M N:Nat}(fns:List Nm)(hM:M<=5000):∀ (l:List Th.zbr) (i:Nat) (bl:List (Nat × List Ins)),(∀ f∈l,Dp N f.e/\wt N f.e<=M/\f.params.length<=5000)->i+l.length<=bl.length->(∀ (j:Nat) (b:Nat × List Ins),bl[j]?=some b->(j<i\/i+l.length<=j)->zq5 b) ->
  (∀ b∈lines (free N) fns N i l bl,zq5 b)/\i+l.length<=(lines (free N) fns N i l bl).length
 |[],i,bl,_,hl,h=>by
  rw[lines];refine ⟨fun b hb=>?_,hl⟩;obtain ⟨j,hj⟩:=List.mem_iff_getElem?.1 hb;exact h j b hj (by simp;omega)
 |f::l,i,bl,hf,hl,h=>by
  obtain ⟨f1,f2,f3⟩:=hf f (by simp);simp only[zy8]at hl h;rw[lines];obtain ⟨sl,aK⟩:∃ sl:List Nm,sl=(Th.texts f.params).reverse:=⟨_,rfl⟩;have s8:sl.length<=5000:=by rw[aK];simp[Th.texts];omega
  rw[<-aK];obtain ⟨⟨⟨more,e1,g1⟩,c,d1,o1⟩,a2⟩:=zbC (M:=M) N fns hM N f.e 0 ⟨bl,sl,[]⟩ f1 f1 f2;have a3:=(zaK M N fns N f.e 0 ⟨bl,sl,[]⟩ f1 f2).1;have a4:=zmG hM f2;generalize work (free N) fns N f.e 0 ⟨bl,sl,[]⟩=q at e1 d1 a2 a3 ⊢;simp only[zzm,zzG,zzb]at e1 d1 a2 a3;have p7:bl.length<=q.blocks.length:=by rw[e1];simp
  have gJ:∀ (j:Nat) (b:Nat × List Ins),(q.blocks.set i (sl.length,q.code))[j]?=some b->(j<i+1\/i+1+l.length<=j)->zq5 b:=by
   intro j b hj E0;rw[zyV]at hj;by_cases ki:i=j
   ·rw[if_pos ki]at hj;subst ki;rw[if_pos (by omega)]at hj;cases hj;refine ⟨by simp only;omega,fun e0=>?_,by simp only;omega,fun x hx=>?_⟩
    ·simp only at e0;rw[e0]at a2;simp at a2
    ·simp only at hx;rw[d1]at hx;exact o1 x hx
   ·rw[if_neg ki,e1,zzj]at hj;by_cases gT:j<bl.length
    ·rw[if_pos gT]at hj;exact h j b hj (by omega)
    ·rw[if_neg gT]at hj;exact g1 b (zy1 hj)
  obtain ⟨i1,i2⟩:=zlz fns hM l (i+1) (q.blocks.set i (sl.length,q.code)) (fun x hx=>hf x (by simp[hx])) (by rw[zy6];omega) gJ;exact ⟨i1,by simp only[zy8];omega⟩
theorem zn9{M N:Nat}(hM:M<=5000){l:List Th.zbr}(hf:∀ f∈l,Dp N f.e/\wt N f.e<=M/\f.params.length<=5000):(∀ b∈program N l,zq5 b)/\l.length<=(program N l).length:=by
 obtain ⟨h1,h2⟩:=zlz (l.map fun f=>f.name.s) hM l 0 (List.replicate l.length (0,[])) hf (by simp) (fun j b hj E0=>by
  have:=(zyL.1 hj).1;simp at this;omega)
 exact ⟨h1,by unfold program;omega⟩
end Cp
variable {w:World}
variable {n:Nat}
theorem zhM{sv:Value}{size:Nat}{e:TypeId}{xs:List Value}(h:w.ownsRow 0 e size sv n xs)(hn:0<n):∃ g cap,sv=.slice (some ⟨g,0,none⟩) n cap/\sv.ownBlock=some g/\g<w.heap.size/\∀ j v,xs[j]?=some v->w.cell? ⟨g,j,none⟩=some v:=by
 have h0:=h;obtain ⟨h1,h2⟩:=h;rcases h2 with ⟨rfl,rfl⟩|⟨g,cap,cur,rfl,hg,hb,r1,r2,r3,r4⟩
 ·omega
 ·refine ⟨g,cap,rfl,rfl,(zyY.1 hb).1,fun j v hj=>?_⟩;have gT:=(zyL.1 hj).1;rw[h0.cellAt j (by omega)];exact hj
theorem zh5:∀ (l:List (Nat × List Ins)) (vs:List Value) (i:Nat) (b:Nat × List Ins) (v:Value),l[i]?=some b->vs[i]?=some v->(zaz l vs)[i*2]?=some (.int .i64 b.1)/\(zaz l vs)[i*2+1]?=some v
 |[],_,_,_,_,h,_=>by simp at h
 |_::_,[],_,_,_,_,h=>by simp at h
 |x::l,y::vs,0,b,v,h1,h2=>by simp at h1 h2;subst h1 h2;simp[zaz]
 |x::l,y::vs,i+1,b,v,h1,h2=>by
  have:=zh5 l vs i b v (by simpa using h1) (by simpa using h2);simp only[zaz];rw[show (i+1)*2=i*2+1+1 by omega];simp only[zy7,zzb,zzT];exact this
theorem zgL:∀ (l:List (Nat × Nat × Nat)) (i t c b:Nat),l[i]?=some (t,c,b)->(zbs l)[i*3]?=some (.int .i64 t)/\(zbs l)[i*3+1]?=some (.int .i64 c)/\(zbs l)[i*3+2]?=some (.int .i64 b)
 |[],_,_,_,_,h=>by simp at h
 |x::l,0,t,c,b,h=>by simp at h;subst h;simp[zbs]
 |x::l,i+1,t,c,b,h=>by
  have:=zgL l i t c b (by simpa using h);unfold zbs at this ⊢;rw[List.flatMap_cons,show (i+1)*3=i*3+1+1+1 by omega];simp only[zy7,zzb,zzT];exact this
theorem zxu{Z:Nat->Prop}{v:Value}{i:Ins}{mb wb:Nat}(hm:w.heap.size<=mb)(hw:w.heap.size<=wb)(h:zo5 Z w v i)(ho:Cp.zq6 i):IAt w mb wb (.slice none 0 0) v i:=by
 cases i with
 |choose zao=>
  obtain ⟨av,h1,h2,h3⟩:=h;have hp:0<zao.length:=zzA.2 h3;obtain ⟨g,cap,rfl,_,fX,hc⟩:=zhM h2.1 hp;have uO:zao.length<=5000:=ho;refine ⟨_,h1,g,cap,rfl,fX,?_,by omega,fun j t c b hj=>?_⟩
  ·rintro (e|e|e)
   ·omega
   ·omega
   ·cases e
  ·obtain ⟨a1,a2,a3⟩:=zgL zao j t c b hj;exact ⟨hc _ _ a1,hc _ _ a2,hc _ _ a3⟩
 |_=>exact h
theorem zsQ{Z:Nat->Prop}{cb:Nat}{rv:Value}{fns:List Cp.Nm}{cd:List (Nat × List Ins)}(h:CS Z w cb rv fns cd)(hg:∀ b∈cd,Cp.zq5 b)(hp:0<cd.length):zqc w rv cd:=by
 intro mb wb hm hw;obtain ⟨cP,h1,h2,h3⟩:=h.zkI;obtain ⟨g,cap,rfl,_,fX,hc⟩:=zhM h2 hp;refine ⟨g,cap,rfl,fX,?_,fun i n is hi=>?_⟩
 ·rintro (e|e|e)
  ·omega
  ·omega
  ·cases e
 ·obtain ⟨b1,b2,b3,b4⟩:=hg _ (zy1 hi);simp only at b1 b2 b3 b4;have br:=(zyL.1 hi).1;obtain ⟨cv,iW⟩:∃ cv,cP[i]?=some cv:=⟨_,zyM (by omega)⟩;obtain ⟨e1,e2⟩:=zh5 cd cP i (n,is) cv hi iW;obtain ⟨vs,r1,r2,r3⟩:=h3 i (n,is) cv hi iW;simp only at r1 r2 r3;obtain ⟨g2,fI,rfl,_,aF,bT⟩:=zhM r1.1 (zzA.2 b2);refine ⟨by omega,b3,hc _ _ e1,g2,fI,vs,hc _ _ e2,aF,?_,r2,fun j x hj=>?_⟩
  ·rintro (e|e|e)
   ·omega
   ·omega
   ·cases e
  ·have gT:=(zyL.1 hj).1;obtain ⟨v,hv⟩:∃ v,vs[j]?=some v:=⟨_,zyM (by omega)⟩;exact ⟨v,hv,bT _ _ hv,zxu hm hw (r3 j v x hv hj) (b4 x (zy1 hj))⟩
end Go.Proofs.YtgahgkddaljmkaaGreatDoor
namespace Go.Proofs.YtgahgkddaljmkaaGreatDoor
open Tryz
namespace Th
def WB (b:Nat) (e:Ex):Prop:=∃ m,Cp.Dp m e/\Cp.wt m e<=b
def WBs (b:Nat) (l:List Ex):Prop:=∃ m,(∀ p∈l,Cp.Dp m p)/\(l.map (Cp.wt m)).sum<=b
variable {b m k:Nat}
theorem WBs.up{l:List Ex}(h1:∀ p∈l,Cp.Dp m p)(h2:(l.map (Cp.wt m)).sum<=b)(hk:m<=k):(∀ p∈l,Cp.Dp k p)/\(l.map (Cp.wt k)).sum<=b:=
 ⟨fun p hp=>(h1 p hp).le hk,by rw[zAf (fun p hp=>Cp.zk9 (h1 p hp) hk)];exact h2⟩
theorem WBs.nil:WBs 0 []:=⟨0,by simp,by simp⟩
variable {a:Nat}
variable {e:Ex}
theorem WBs.snoc{l:List Ex}(h:WBs a l)(k:WB b e):WBs (a+b) (l++[e]):=by
 obtain ⟨m,h1,h2⟩:=h;obtain ⟨n,k1,k2⟩:=k;obtain ⟨g1,g2⟩:=WBs.up h1 h2 (zz0 m n);have k3:=Cp.zk9 k1 (zAc n m);refine ⟨m+n,fun p hp=>?_,?_⟩
 ·rcases zzi.mp hp with hp|hp
  ·exact g1 p hp
  ·rw[zze.mp hp];exact k1.le (by omega)
 ·rw[zz3,zz5];simp;omega
theorem WB.of(hw:Cp.Well e)(hk:∀ k∈e.kids,Cp.Dp m k)(hb:1+e.names.length+(e.zao.map fun a=>1+a.2.length).sum+(e.kids.map (Cp.wt m)).sum<=b):WB b e:=⟨m+1,⟨hw,hk⟩,by rw[Cp.wt];exact hb⟩
variable {n:Nat}
theorem zyF(h:n<=999999999):WB 1 (mkNum n):=WB.of (m:=0) ⟨by simp[mkNum],by simp[mkNum],h,by simp[mkNum],by simp[mkNum],by simp[mkNum],by simp[mkNum],by simp[mkNum],by simp[mkNum],by simp[mkNum],by simp[mkNum],by simp[mkNum],by simp[mkNum]⟩ (by simp[mkNum]) (by simp[mkNum])
theorem zx3{t:Tok}(h:t.s≠[]):WB 1 (zbW t):=WB.of (m:=0) ⟨by simp[zbW],by simp[zbW],by simp[zbW],by simp[zbW],by simp[zbW],by simp[zbW],by simp[zbW],fun _=>h,by simp[zbW],by simp[zbW],by simp[zbW],by simp[zbW],by simp[zbW]⟩ (by simp[zbW]) (by simp[zbW])
theorem zx2{t:Nat}(h1:t<=99)(h2:a<=9):WB 1 (zcU t a):=WB.of (m:=0) ⟨by simp[zcU],by simp[zcU],by simp[zcU],h1,h2,by simp[zcU],by simp[zcU],by simp[zcU],by simp[zcU],by simp[zcU],by simp[zcU],by simp[zcU],by simp[zcU]⟩ (by simp[zcU]) (by simp[zcU])
theorem zyD{l:List Tok}(hl:l≠[])(hs:∀ t∈l,t.s≠[])(h:WB b e):WB (b+l.length+1) (mkFun l e):=by
 obtain ⟨m,h1,h2⟩:=h;exact WB.of (m:=m) ⟨by simp[mkFun],by simp[mkFun],by simp[mkFun],by simp[mkFun],by simp[mkFun],hs,by simp[mkFun],by simp[mkFun],fun _=>⟨hl,e,rfl⟩,by simp[mkFun],by simp[mkFun],by simp[mkFun],by simp[mkFun]⟩ (by simp[mkFun,h1]) (by simp[mkFun];omega)
variable {f:Ex}
theorem zw1(h:WB a e)(k:WB b f):∃ m,Cp.Dp m e/\Cp.Dp m f/\Cp.wt m e<=a/\Cp.wt m f<=b:=by
 obtain ⟨m,h1,h2⟩:=h;obtain ⟨n,k1,k2⟩:=k;exact ⟨m+n,h1.le (by omega),k1.le (by omega),by rw[Cp.zk9 h1 (by omega)];exact h2,by rw[Cp.zk9 k1 (by omega)];exact k2⟩
theorem zx0(h:WB a e)(k:WB b f):WB (a+b+1) (zch e f):=by
 obtain ⟨m,h1,h2,h3,h4⟩:=zw1 h k;exact WB.of (m:=m) ⟨by simp[zch],by simp[zch],by simp[zch],by simp[zch],by simp[zch],by simp[zch],by simp[zch],by simp[zch],by simp[zch],fun _=>⟨e,f,rfl⟩,by simp[zch],by simp[zch],by simp[zch]⟩ (by simp[zch,h1,h2]) (by simp[zch];omega)
theorem zyG{t:Tok}(ht:t.s∈six)(h:WB a e)(k:WB b f):WB (a+b+1) (ziR t e f):=by
 obtain ⟨m,h1,h2,h3,h4⟩:=zw1 h k;exact WB.of (m:=m) ⟨by simp[ziR],by simp[ziR],by simp[ziR],by simp[ziR],by simp[ziR],by simp[ziR],by simp[ziR],by simp[ziR],by simp[ziR],fun _=>⟨e,f,rfl⟩,fun _=>ht,by simp[ziR],by simp[ziR]⟩ (by simp[ziR,h1,h2]) (by simp[ziR];omega)
theorem zyE{r:Bool}{l:List Tok}{parts:List Ex}(hl:l≠[])(hs:∀ t∈l,t.s≠[])(hn:parts.length=l.length)(h:WBs a parts)(k:WB b e):WB (a+b+l.length+1) (mkLet r l parts e):=by
 obtain ⟨m,h1,h2⟩:=h;obtain ⟨n,k1,k2⟩:=k;obtain ⟨g1,g2⟩:=WBs.up h1 h2 (zz0 m n);have k3:=Cp.zk9 k1 (zAc n m);have hk:(mkLet r l parts e).kind=7\/(mkLet r l parts e).kind=8:=by cases r <;> simp[mkLet]
 refine WB.of (m:=m+n) ⟨by omega,by omega,by simp[mkLet],by simp[mkLet],by simp[mkLet],hs,by simp[mkLet],fun h=>by omega,fun h=>by omega,fun h=>by omega,fun h=>by omega,fun _=>⟨hl,e,parts,rfl,hn⟩,fun h=>by omega⟩ (fun p hp=>?_) ?_
 ·rcases zzo.1 hp with rfl|hp
  ·exact k1.le (by omega)
  ·exact g1 p hp
 ·simp only[mkLet,List.map_nil,List.sum_nil,zza,zzd];omega
theorem zx1{l:List (Nat × List Tok)}{ag:List Ex}(hl:l≠[])(hs:∀ x∈l,x.1<=99/\∀ t∈x.2,t.s≠[])(hn:ag.length=l.length)(h:WBs a ag)(k:WB b e):WB (a+b+(l.map fun x=>1+x.2.length).sum+1) (mkCase e l ag):=by
 obtain ⟨m,h1,h2⟩:=h;obtain ⟨n,k1,k2⟩:=k;obtain ⟨g1,g2⟩:=WBs.up h1 h2 (zz0 m n);have k3:=Cp.zk9 k1 (zAc n m);refine WB.of (m:=m+n) ⟨by simp[mkCase],by simp[mkCase],by simp[mkCase],by simp[mkCase],by simp[mkCase],by simp[mkCase],hs,by simp[mkCase],by simp[mkCase],by simp[mkCase],by simp[mkCase],by simp[mkCase],fun _=>⟨hl,e,ag,rfl,hn⟩⟩ (fun p hp=>?_) ?_
 ·rcases zzo.1 hp with rfl|hp
  ·exact k1.le (by omega)
  ·exact g1 p hp
 ·simp only[mkCase,zzm,zza,zzd];omega
def TK2 (st:St):Prop:=∀ t∈st.rest,(t.k=3->val t.s<=999999999)/\(t.k=2->t.s≠[])
theorem TK2.adv{st:St}(h:TK2 st):TK2 st.adv:=fun t ht=>h t (List.mem_of_mem_tail ht)
theorem TK2.fail{st:St}(h:TK2 st):TK2 st.fail:=by
 unfold St.fail;split
 ·intro t ht;simp at ht
 ·exact h
theorem TK2.want{st:St}(s:List UInt8)(h:TK2 st):TK2 (want s st):=by
 unfold Th.want;split
 ·exact h.adv
 ·exact h.fail
theorem TK2.zaL{st:St}(h:TK2 st):TK2 (zaL st).2:=by
 unfold Th.zaL;split
 ·exact h.adv
 ·exact h.fail
theorem TK2.zax{st:St}(h:TK2 st):TK2 (zax st).2:=by
 unfold Th.zax;split
 ·exact fun t ht=>h t ((List.dropWhile_sublist _).subset ht)
 ·exact h
theorem TK2.zaB{st:St}(a b:Nat)(h:TK2 st):TK2 (zaB a b st).2:=by
 unfold Th.zaB;split
 ·exact h.adv
 ·exact h.fail
variable {st:St}
theorem zf9{s:List UInt8}(h:st.is s=true)(hs:s≠[]):st.rest.length=st.adv.rest.length+1:=by
 unfold St.is at h;simp only[zzv,beq_iff_eq]at h;cases hr:st.rest with
 |nil=>exact absurd (by rw[<-h.2];simp[St.hd,hr,znj]) hs
 |cons t r=>simp[St.adv,hr]
theorem zfw(h:st.kind k=true)(hk:k≠0):st.rest.length=st.adv.rest.length+1/\st.hd∈st.rest/\st.hd.k=k:=by
 unfold St.kind at h;simp only[zzv,beq_iff_eq]at h;cases hr:st.rest with
 |nil=>exact absurd (by rw[<-h.2];simp[St.hd,hr,znj]) hk
 |cons t r=>exact ⟨by simp[St.adv,hr],by simp[St.hd,hr],h.2⟩
theorem zb7{s:List UInt8}(h:(want s st).bad=none)(hs:s≠[]):st.rest.length=(want s st).rest.length+1:=by
 unfold want at h ⊢;split at h
 ·next hi=>rw[if_pos hi];exact zf9 hi hs
 ·exact (zhK h).elim
theorem zmw(h:(zaL st).2.bad=none)(ht:TK2 st):st.rest.length=(zaL st).2.rest.length+1/\(zaL st).1.s≠[]:=by
 unfold zaL at h ⊢;split at h
 ·next hi=>
  rw[if_pos hi];obtain ⟨a,b,c⟩:=zfw hi (by decide);exact ⟨a,(ht _ b).2 c⟩
 ·exact (zhK h).elim
theorem zdh(h:(zax st).2.bad=none)(ht:TK2 st):st.rest.length=(zax st).2.rest.length+(zax st).1.length/\∀ t∈(zax st).1,t.s≠[]:=by
 have hb:=zcM _ h;unfold zax;rw[if_pos (by rw[hb];rfl)];refine ⟨?_,fun t hm=>?_⟩
 ·have:=congrArg List.length (List.takeWhile_append_dropWhile (p:=fun t:Tok=>t.k == 2) (l:=st.rest));rw[zyT]at this;simp only;omega
 ·simp only at hm;have h1:=(zAi _).subset hm;have h2:(t.k == 2)=true:=List.all_eq_true.1 (List.all_takeWhile (p:=fun t:Tok=>t.k == 2) (l:=st.rest)) t hm;simp only[beq_iff_eq]at h2;exact (ht t h1).2 h2
theorem zhL(h:(zaB a b st).2.bad=none):st.rest.length=(zaB a b st).2.rest.length+1:=by
 unfold zaB at h ⊢;split at h
 ·next hi=>
  rw[if_pos hi];simp only[zzv]at hi;exact (zfw hi.1.1 (by decide)).1
 ·exact (zhK h).elim
def zkw (st:St) (q:Ex × St):Prop:=TK2 q.2/\(q.2.bad=none->∃ b,b+1+2*q.2.rest.length<=2*st.rest.length/\WB b q.1)
def zo9 (ex:Rd):Prop:=∀ c st q,ex c st=some q->TK2 st->zkw st q
theorem zpC(h:TK2 st):TK2 (zdj st).2/\((zdj st).2.bad=none->(zdj st).2.rest.length<=st.rest.length/\WB 1 (zdj st).1):=by
 refine ⟨TK2.want _ (TK2.zaB _ _ (TK2.want _ (TK2.zaB _ _ h))),fun hb=>?_⟩;have h1:=zb7 (s:=[125]) hb (by decide);have b1:=zaC _ _ hb;have h2:=zhL b1;have b2:=zdX _ _ _ b1;have h3:=zb7 b2 (by decide);have h4:=zhL (zaC _ _ b2);refine ⟨?_,zx2 (zdb _ _ _) (zdb _ _ _)⟩;unfold zdj at *;simp only at *;omega
variable {ex:Rd}
variable {q:Ex × St}
theorem zlB(hx:zo9 ex)(h:zeU ex st=some q)(ht:TK2 st):zkw st q:=by
 unfold zeU at h;split at h
 ·next hi=>
  cases h;obtain ⟨a,b,c⟩:=zfw hi (by decide);exact ⟨ht.adv,fun _=>⟨1,by simp only;omega,zx3 ((ht _ b).2 c)⟩⟩
 ·split at h
  ·next hi=>
   cases h;obtain ⟨a,b,c⟩:=zfw hi (by decide);exact ⟨ht.adv,fun _=>⟨1,by simp only;omega,zyF ((ht _ b).1 c)⟩⟩
  ·split at h
   ·next hi=>
    cases h;have a:=zf9 hi (by decide);obtain ⟨m1,m2⟩:=zpC ht.adv;refine ⟨m1,fun hb=>?_⟩;obtain ⟨n1,n2⟩:=m2 hb;exact ⟨1,by omega,n2⟩
   ·split at h
    ·next hi=>
     simp only[zyQ,zyP]at h;obtain ⟨r,h1,rfl⟩:=h;have a:=zf9 hi (by decide);have m:=hx _ _ _ h1 ht.adv;refine ⟨m.1.want _,fun hb=>?_⟩;have w:=zb7 (s:=[41]) hb (by decide);obtain ⟨b,aA,aw⟩:=m.2 (zaC _ _ hb);exact ⟨b,by simp only at *;omega,aw⟩
    ·cases h;exact ⟨ht.fail,fun hb=>(zhK hb).elim⟩
theorem zjr{ex:Rd}(hx:zo9 ex)(hk:zbD ex):∀ (k:Nat) (e:Ex) (st s0:St) (q:Ex × St),zcV ex k e st=some q->TK2 st->(st.bad=none->∃ b,b+1+2*st.rest.length<=2*s0.rest.length/\WB b e)->zkw s0 q
 |0,_,_,_,_,h,_,_=>by simp[zcV]at h
 |k+1,e,st,s0,q,h,ht,he=>by
  rw[zcV]at h;split at h
  ·simp only[zyQ]at h;obtain ⟨r,h1,h2⟩:=h;have m:=zlB hx h1 ht;refine zjr hx hk k _ _ s0 _ h2 m.1 (fun hb=>?_);obtain ⟨a,a1,a2⟩:=he (zfp hk h1 hb);obtain ⟨b,b1,b2⟩:=m.2 hb;exact ⟨a+b+1,by omega,zx0 a2 b2⟩
  ·cases h;exact ⟨ht,he⟩
theorem zlC(hx:zo9 ex)(hk:zbD ex)(h:zhP ex k st=some q)(ht:TK2 st):zkw st q:=by
 unfold zhP at h;simp only[zyQ]at h;obtain ⟨r,h1,h2⟩:=h;have m:=zlB hx h1 ht;exact zjr hx hk k _ _ _ _ h2 m.1 m.2
theorem zjs{sub:St->Option (Ex × St)}(hs:∀ st q,sub st=some q->TK2 st->zkw st q)(hk:∀ st q,sub st=some q->q.2.bad=none->st.bad=none){a b:List UInt8}(ha:a∈six)(hb:b∈six):
  ∀ (k:Nat) (e:Ex) (st s0:St) (q:Ex × St),zku sub a b k e st=some q->TK2 st->(st.bad=none->∃ b,b+1+2*st.rest.length<=2*s0.rest.length/\WB b e)->zkw s0 q
 |0,_,_,_,_,h,_,_=>by simp[zku]at h
 |k+1,e,st,s0,q,h,ht,he=>by
  rw[zku]at h;split at h
  ·next hi=>
   simp only[zyQ]at h;obtain ⟨r,h1,h2⟩:=h;have m:=hs _ _ h1 ht.adv;simp only[zAy]at hi;have aH:∀ x∈six,x≠[]:=by decide
   have hlen:st.rest.length=st.adv.rest.length+1:=by
    rcases hi with hi|hi
    ·exact zf9 hi (aH _ ha)
    ·exact zf9 hi (aH _ hb)
   refine zjs hs hk ha hb k _ _ s0 _ h2 m.1 (fun aQ=>?_);obtain ⟨c,c1,c2⟩:=he (zbz _ (hk _ _ h1 aQ));obtain ⟨d,d1,d2⟩:=m.2 aQ;refine ⟨c+d+1,by omega,zyG ?_ c2 d2⟩;rcases hi with hi|hi
   ·rw[zeS hi];exact ha
   ·rw[zeS hi];exact hb
  ·cases h;exact ⟨ht,he⟩
theorem zg1(hx:zo9 ex)(hk:zbD ex)(h:zcG ex k st=some q)(ht:TK2 st):zkw st q:=by
 unfold zcG at h;simp only[zyQ]at h;obtain ⟨r,h1,h2⟩:=h;have m:=zlC hx hk h1 ht;exact zjs (fun _ _ a b=>zlC hx hk a b) (fun _ _ a=>zfq hk _ _ _ a) (by decide) (by decide) k _ _ _ _ h2 m.1 m.2
theorem znY(hx:zo9 ex)(hk:zbD ex)(h:zu0 ex k st=some q)(ht:TK2 st):zkw st q:=by
 unfold zu0 at h;simp only[zyQ]at h;obtain ⟨r,h1,h2⟩:=h;have m:=zg1 hx hk h1 ht;exact zjs (fun _ _ a b=>zg1 hx hk a b) (fun _ _ a=>zc4 hk _ _ _ a) (by decide) (by decide) k _ _ _ _ h2 m.1 m.2
theorem zrG(hx:zo9 ex)(hk:zbD ex)(h:zjD ex k st=some q)(ht:TK2 st):zkw st q:=by
 unfold zjD at h;simp only[zyQ]at h;obtain ⟨r,h1,h2⟩:=h;have m:=znY hx hk h1 ht;split at h2
 ·next hi=>
  simp only[zyQ,zyP]at h2;obtain ⟨p,h3,rfl⟩:=h2;have m2:=znY hx hk h3 m.1.adv;simp only[zAy]at hi;have hlen:r.2.rest.length=r.2.adv.rest.length+1:=by
   rcases hi with hi|hi
   ·exact zf9 hi (by decide)
   ·exact zf9 hi (by decide)
  refine ⟨m2.1,fun hb=>?_⟩;obtain ⟨c,c1,c2⟩:=m.2 (zbz _ (ze2 hk _ _ _ h3 hb));obtain ⟨d,d1,d2⟩:=m2.2 hb;refine ⟨c+d+1,by simp only at *;omega,zyG ?_ c2 d2⟩;rcases hi with hi|hi
  ·rw[zeS hi];decide
  ·rw[zeS hi];decide
 ·cases h2;exact m
theorem zjq{ex:Rd}(hx:zo9 ex)(hk:zbD ex):∀ (k:Nat) (l:List Tok) (es:List Ex) (st s0:St) (q:List Tok × List Ex × St),zcu ex k l es st=some q->TK2 st->es.length=l.length->(st.bad=none->(∀ t∈l,t.s≠[])/\∃ b,b+l.length+2*st.rest.length<=2*s0.rest.length/\WBs b es) ->
  TK2 q.2.2/\q.1≠[]/\q.2.1.length=q.1.length/\(q.2.2.bad=none->(∀ t∈q.1,t.s≠[])/\∃ b,b+q.1.length+2*q.2.2.rest.length<=2*s0.rest.length/\WBs b q.2.1)
 |0,_,_,_,_,_,h,_,_,_=>by simp[zcu]at h
 |k+1,l,es,st,s0,q,h,ht,hl,he=>by
  rw[zcu]at h;simp only[zyQ]at h;obtain ⟨r,h1,h2⟩:=h;have m:=hx _ _ _ h1 (ht.zaL.want _);have hs:r.2.bad=none->(∀ t∈l++[(zaL st).1],t.s≠[])/\∃ b,b+(l++[(zaL st).1]).length+2*r.2.rest.length<=2*s0.rest.length/\WBs b (es++[r.1]):=fun hb=>by
   have g1:=hk _ _ _ h1 hb;have g2:=zaC _ _ g1;have g3:=zc2 _ g2;have l1:=zb7 g1 (by decide);obtain ⟨l2,l3⟩:=zmw g2 ht;obtain ⟨e1,b,e2,e3⟩:=he g3;obtain ⟨c,c1,c2⟩:=m.2 hb;refine ⟨fun t hm=>?_,b+c,by simp;omega,e3.snoc c2⟩;rcases zzi.mp hm with hm|hm
   ·exact e1 t hm
   ·rw[zze.mp hm];exact l3
  have aC:(es++[r.1]).length=(l++[(zaL st).1]).length:=by simp[hl]
  split at h2
  ·next hi=>
   have a:=zf9 hi (by decide);refine zjq hx hk k _ _ _ s0 _ h2 m.1.adv aC (fun hb=>?_);obtain ⟨e1,b,e2,e3⟩:=hs (zbz _ hb);exact ⟨e1,b,by omega,e3⟩
  ·cases h2;exact ⟨m.1,by simp,aC,hs⟩
variable {c:Bool}
theorem ztu(hx:zo9 ex)(hk:zbD ex)(h:ztQ ex k c st=some q)(ht:TK2 st):TK2 q.2/\(q.2.bad=none->∃ b,b+2*q.2.rest.length<=2*st.rest.length/\WB b q.1):=by
 unfold ztQ at h;simp only[zyQ,zyP]at h;obtain ⟨r,h1,p,h2,rfl⟩:=h;have h0:TK2 (if st.is zo8 then st.adv else st):=by
  split
  ·exact ht.adv
  ·exact ht
 have da:(if st.is zo8 then st.adv else st).rest.length<=st.rest.length:=by
  split
  ·simp[St.adv]
  ·exact zyN _
 obtain ⟨a1,a2,a3,a4⟩:=zjq hx hk k _ _ _ st _ h1 h0 rfl (fun _=>⟨by simp,0,by simpa using zzp 2 da,WBs.nil⟩);have m:=hx _ _ _ h2 (a1.want _);refine ⟨m.1,fun hb=>?_⟩;have g1:=hk _ _ _ h2 hb;have l1:=zb7 g1 (by decide);obtain ⟨e1,b,e2,e3⟩:=a4 (zaC _ _ g1);obtain ⟨d,d1,d2⟩:=m.2 hb;refine ⟨b+d+r.1.length+1,by simp only at *;omega,zyE a2 e1 a3 e3 d2⟩
theorem zts(hx:zo9 ex)(hk:zbD ex){q:(Nat × List Tok) × Ex × St}(h:ztN ex c st=some q)(ht:TK2 st):q.1.1<=99/\TK2 q.2.2/\(q.2.2.bad=none->(∀ t∈q.1.2,t.s≠[])/\∃ b,b+1+q.1.2.length+2*q.2.2.rest.length<=2*st.rest.length/\WB b q.2.1):=by
 unfold ztN at h;simp only[zyQ,zyP]at h;obtain ⟨r,h1,rfl⟩:=h;have t1:=TK2.want [62] (TK2.zaB 1 99 (ht.want [60]));have m:=hx _ _ _ h1 (TK2.want _ (TK2.zax t1));refine ⟨zdb _ _ _,m.1,fun hb=>?_⟩;have g1:=hk _ _ _ h1 hb;have l1:=zb7 g1 (by decide);have g2:=zaC _ _ g1;obtain ⟨l2,l3⟩:=zdh g2 t1;have g3:=zcM _ g2;have l4:=zb7 g3 (by decide);have g4:=zaC _ _ g3;have l5:=zhL g4;have l6:=zb7 (zdX _ _ _ g4) (by decide);obtain ⟨d,d1,d2⟩:=m.2 hb;exact ⟨l3,d,by simp only at *;omega,d2⟩
theorem zlA{ex:Rd}(hx:zo9 ex)(hk:zbD ex)(c:Bool):∀ (k:Nat) (l:List (Nat × List Tok)) (es:List Ex) (st s0:St) (q:List (Nat × List Tok) × List Ex × St),zeD ex c k l es st=some q->TK2 st->es.length=l.length ->
  (st.bad=none->(∀ x∈l,x.1<=99/\∀ t∈x.2,t.s≠[])/\∃ b,b+(l.map fun x=>1+x.2.length).sum+2*st.rest.length<=2*s0.rest.length/\WBs b es) ->
  TK2 q.2.2/\q.1≠[]/\q.2.1.length=q.1.length/\(q.2.2.bad=none->(∀ x∈q.1,x.1<=99/\∀ t∈x.2,t.s≠[])/\∃ b,b+(q.1.map fun x=>1+x.2.length).sum+2*q.2.2.rest.length<=2*s0.rest.length/\WBs b q.2.1)
 |0,_,_,_,_,_,h,_,_,_=>by simp[zeD]at h
 |k+1,l,es,st,s0,q,h,ht,hl,he=>by
  rw[zeD]at h;simp only[zyQ]at h;obtain ⟨r,h1,h2⟩:=h;obtain ⟨m0,m1,m2⟩:=zts hx hk h1 ht;have hs:r.2.2.bad=none->(∀ x∈l++[r.1],x.1<=99/\∀ t∈x.2,t.s≠[])/\∃ b,b+((l++[r.1]).map fun x=>1+x.2.length).sum+2*r.2.2.rest.length<=2*s0.rest.length/\WBs b (es++[r.2.1]):=fun hb=>by
   obtain ⟨e1,b,e2,e3⟩:=he (zfz hk h1 hb);obtain ⟨f1,d,f2,f3⟩:=m2 hb;refine ⟨fun x hm=>?_,b+d,?_,e3.snoc f3⟩
   ·rcases zzi.mp hm with hm|hm
    ·exact e1 x hm
    ·rw[zze.mp hm];exact ⟨m0,f1⟩
   ·rw[zz3,zz5];simp only[zza,List.map_nil,zzd,List.sum_nil];omega
  have aC:(es++[r.2.1]).length=(l++[r.1]).length:=by simp[hl]
  split at h2
  ·next hi=>
   unfold za8 at hi;simp only[zzv]at hi;have a:=zf9 hi.1 (by decide);refine zlA hx hk c k _ _ _ s0 _ h2 m1.adv aC (fun hb=>?_);obtain ⟨e1,b,e2,e3⟩:=hs (zbz _ hb);exact ⟨e1,b,by omega,e3⟩
  ·cases h2;exact ⟨m1,by simp,aC,hs⟩
theorem zrF(hx:zo9 ex)(hk:zbD ex)(h:zjy ex k c st=some q)(ht:TK2 st):TK2 q.2/\(q.2.bad=none->∃ b,b+2*q.2.rest.length<=2*st.rest.length/\WB b q.1):=by
 unfold zjy at h;simp only[zyQ,zyP]at h;obtain ⟨r,h1,p,h2,rfl⟩:=h;have m:=hx _ _ _ h1 ht;obtain ⟨a1,a2,a3,a4⟩:=zlA hx hk c k _ _ _ (want sOf r.2) _ h2 (m.1.want _) rfl (fun _=>⟨by simp,0,by simp,WBs.nil⟩);refine ⟨a1,fun hb=>?_⟩;have g1:=zfn hk c k _ _ _ _ h2 hb;have l1:=zb7 g1 (by decide);obtain ⟨e1,b,e2,e3⟩:=a4 hb;obtain ⟨d,d1,d2⟩:=m.2 (zaC _ _ g1);exact ⟨b+d+(p.1.map fun x=>1+x.2.length).sum+1,by simp only at *;omega,zx1 a2 e1 a3 e3 d2⟩
theorem ztt(hx:zo9 ex)(hk:zbD ex)(h:ztO ex c st=some q)(ht:TK2 st):TK2 q.2/\(q.2.bad=none->∃ b,b+2*q.2.rest.length<=2*st.rest.length/\WB b q.1):=by
 unfold ztO at h;simp only[zyQ,zyP]at h;obtain ⟨r,h1,rfl⟩:=h;have m:=hx _ _ _ h1 (TK2.want _ (TK2.zax ht.zaL));refine ⟨m.1,fun hb=>?_⟩;have g1:=hk _ _ _ h1 hb;have l1:=zb7 g1 (by decide);have g2:=zaC _ _ g1;obtain ⟨l2,l3⟩:=zdh g2 ht.zaL;have g3:=zcM _ g2;obtain ⟨l4,l5⟩:=zmw g3 ht;obtain ⟨d,d1,d2⟩:=m.2 hb;refine ⟨d+((zaL st).1::(zax (zaL st).2).1).length+1,by simp only[zy8]at *;omega,zyD (by simp) (fun t hm=>?_) d2⟩;rcases zzo.1 hm with rfl|hm
 ·exact l5
 ·exact l3 t hm
theorem zrE(hx:zo9 ex)(hk:zbD ex)(k:Nat):zo9 (zg7 ex k):=by
 intro c st q h ht;unfold zg7 at h;have go:∀ {s:List UInt8},st.is s=true->s≠[]->TK2 q.2/\(q.2.bad=none->∃ b,b+2*q.2.rest.length<=2*st.adv.rest.length/\WB b q.1)->zkw st q:=fun hi hs m=>by
  have a:=zf9 hi hs;refine ⟨m.1,fun hb=>?_⟩;obtain ⟨b,b1,b2⟩:=m.2 hb;exact ⟨b,by omega,b2⟩
 split at h
 ·next hi=>exact go hi (by decide) (ztu hx hk h ht.adv)
 ·split at h
  ·next hi=>exact go hi (by decide) (zrF hx hk h ht.adv)
  ·split at h
   ·next hi=>exact go hi (by decide) (ztt hx hk h ht.adv)
   ·exact zrG hx hk h ht
theorem zlD:∀ n,zo9 (zdJ n)
 |0=>fun _ _ _ h=>by simp[zdJ]at h
 |n+1=>zrE (zlD n) (zcz n) n
def zwJ (b:Nat) (l:List zbr):Prop:=∃ m,(∀ x∈l,Cp.Dp m x.e/\∀ t∈x.params,t.s≠[])/\(l.map fun x=>Cp.wt m x.e+x.params.length+1).sum<=b
theorem zgp{n:Nat}:∀ (k:Nat) (l:List zbr) (st s0:St) (q:List zbr × St),zcn (zdJ n) k l st=some q->TK2 st->(st.bad=none->∃ b,b+2*st.rest.length<=2*s0.rest.length/\zwJ b l)->q.2.bad=none->zwJ (2*s0.rest.length) q.1
 |0,_,_,_,_,h,_,_,_=>by simp[zcn]at h
 |k+1,l,st,s0,q,h,ht,hl,hb=>by
  rw[zcn]at h;split at h
  ·simp only[zyQ]at h;obtain ⟨r,h1,h2⟩:=h;unfold zmE at h1;simp only[zyQ,zyP]at h1;obtain ⟨p,h3,rfl⟩:=h1;have m:=zlD n _ _ _ h3 (TK2.want _ (TK2.zax ht.zaL));refine zgp k _ _ s0 _ h2 (m.1.want _) (fun aw=>?_) hb;have w1:=zb7 aw (by decide);have hp:=zaC _ _ aw;have g1:=zcz n _ _ _ h3 hp;have l1:=zb7 g1 (by decide);have g2:=zaC _ _ g1;obtain ⟨l2,l3⟩:=zdh g2 ht.zaL;have g3:=zcM _ g2;obtain ⟨l4,l5⟩:=zmw g3 ht;obtain ⟨b,b1,m1,e1,e2⟩:=hl (zc2 _ g3);obtain ⟨d,d1,m2,f1,f2⟩:=m.2 hp;refine ⟨b+(d+(zax (zaL st).2).1.length+1),by simp only at *;omega,m1+m2,fun x hx=>?_,?_⟩
   ·rcases zzi.mp hx with hx|hx
    ·exact ⟨(e1 x hx).1.le (by omega),(e1 x hx).2⟩
    ·rw[zze.mp hx];exact ⟨f1.le (by omega),l3⟩
   ·rw[zz3,zz5];have e3:(l.map fun x=>Cp.wt (m1+m2) x.e+x.params.length+1)=l.map fun x=>Cp.wt m1 x.e+x.params.length+1:=zAf (fun x hx=>by rw[Cp.zk9 (e1 x hx).1 (by omega)])
    rw[e3];have e4:=Cp.zk9 f1 (show m2<=m1+m2 by omega);simp only[zza,List.map_nil,zzd,List.sum_nil];omega
  ·cases h;obtain ⟨b,b1,m,e1,e2⟩:=hl hb;exact ⟨m,e1,by simp only at *;omega⟩
end Th
end Go.Proofs.YtgahgkddaljmkaaGreatDoor
namespace Go.Proofs.YtgahgkddaljmkaaGreatDoor
open Tryz
open Go.RowKit
namespace Th
def zcx:Nat->Nat->List Tok->Prop
 |lo,hi,[]=>lo<=hi
 |lo,hi,t::r=>lo<=t.at_/\zcx (t.at_+1) hi r
def zbd (P:Ex->Nat->Nat->Prop):Nat->Nat->List Tok->List Ex->Prop
 |lo,hi,[],[]=>lo<=hi
 |lo,hi,t::r,e::es=>lo<=t.at_/\∃ m,P e (t.at_+1) m/\zbd P m hi r es
 |_,_,_,_=>False
def zcb (P:Ex->Nat->Nat->Prop):Nat->Nat->List (Nat × List Tok)->List Ex->Prop
 |lo,hi,[],[]=>lo<=hi
 |lo,hi,a::r,e::es=>∃ m1 m2,zcx (lo+1) m1 a.2/\P e m1 m2/\zcb P m2 hi r es
 |_,_,_,_=>False
def In:Nat->Ex->Nat->Nat->Prop
 |0,_,_,_=>False
 |n+1,e,lo,hi=>lo<=hi /\
  (((e.kind=1\/e.kind=3))\/(e.kind=2/\lo<=e.tok.at_/\e.tok.at_<hi) \/
   (e.kind=4/\∃ b m,e.kids=[b]/\zcx lo m e.names/\In n b m hi) \/
   ((e.kind=5\/e.kind=6)/\∃ e1 e2 m,e.kids=[e1,e2]/\In n e1 lo m/\In n e2 m hi) \/
   ((e.kind=7\/e.kind=8)/\∃ b parts m,e.kids=b::parts/\zbd (In n) lo m e.names parts/\In n b m hi) \/
   (e.kind=9/\∃ b ag m,e.kids=b::ag/\In n b lo m/\zcb (In n) m hi e.zao ag))
theorem zcx.len:∀ {lo hi:Nat} {l:List Tok},zcx lo hi l->lo+l.length<=hi
 |lo,hi,[],h=>h
 |lo,hi,t::r,h=>by
  have:=zcx.len h.2;have:=h.1;simp;omega
theorem In.le:∀ {n:Nat} {e:Ex} {lo hi:Nat},In n e lo hi->lo<=hi
 |0,_,_,_,h=>h.elim
 |_+1,_,_,_,h=>h.1
theorem zbd.len{n:Nat}:∀ {lo hi:Nat} {l:List Tok} {es:List Ex},zbd (In n) lo hi l es->lo+l.length<=hi
 |lo,hi,[],[],h=>h
 |lo,hi,t::r,e::es,h=>by
  obtain ⟨h1,m,h2,h3⟩:=h;have:=zbd.len h3;have:=In.le h2;simp;omega
 |_,_,[],_::_,h=>h.elim
 |_,_,_::_,[],h=>h.elim
theorem zcb.len{n:Nat}:∀ {lo hi:Nat} {l:List (Nat × List Tok)} {es:List Ex},zcb (In n) lo hi l es->lo+l.length<=hi
 |lo,hi,[],[],h=>h
 |lo,hi,a::r,e::es,h=>by
  obtain ⟨m1,m2,h1,h2,h3⟩:=h;have:=zcb.len h3;have:=In.le h2;have:=zcx.len h1;simp;omega
 |_,_,[],_::_,h=>h.elim
 |_,_,_::_,[],h=>h.elim
end Th
def zwK (n:Nat):Prop:=∀ (w:World) (c:Nat) (o:Option Nat) (v:Value) (e:Th.Ex) (av:Value) (ae:List (List UInt8)) (S A:Nat->Prop) (m lo hi:Nat),
 Chk w c o->Rep S w m v e->Th.In n e lo hi->Row A w 9 1 av ae.length (strCells ae)->¬ S c->¬ A c->ae.length+(hi-lo)<=1000000 ->
  Calls prog 71 #[.pointer (some ⟨c,0,none⟩),v,av] w fun en w'=>en=.returned (.tuple #[])/\Chk w' c (after o (Th.zar n e ae))/\w.grownBy w' (some c)
variable {n:Nat}
variable {w:World}
variable {m:Nat}
theorem zlw(hx:zwK n){c:Nat}{o:Option Nat}{nv v av:Value}{l:List Th.Tok}{e:Th.Ex}{ae:List (List UInt8)}{S A:Nat->Prop}{lo dm hi:Nat}(hc:Chk w c o)(hn:Row S w 88 2 nv l.length (zaj l))(hr:Rep S w m v e)(h1:Th.zcx lo dm l)(h2:Th.In n e dm hi)(ha:Row A w 9 1 av ae.length (strCells ae))(hS:¬ S c)(hA:¬ A c)(hb:ae.length+(hi-lo)<=1000000):
  Calls prog 122 #[.pointer (some ⟨c,0,none⟩),nv,v,av] w fun en w'=>en=.returned (.tuple #[])/\Chk w' c (after o (Th.zjc [] l++Th.zar n e (ae++Th.texts l)))/\w.grownBy w' (some c):=by
 have aL:=h1.len;have aC:=h2.le;have aN:=hc.lt;have lp:l.length<=1000000:=by omega
 have aU:ae.length<=1000000:=by omega
 have E1:=zah hr;have fD:=zae hn;have jw:=zae ha;have hd:=zab (zia hc hn hS lp);have HN:=zab hn;have HR:=zab hr;have HA:=zab ha;have HI:=zab (And.intro h2 (And.intro hS hA));have HL:Hid ((ae++Th.texts l).length+(hi-dm)<=1000000):=zab (by simp[Th.texts];omega);have HX:=zab hx;clear hc hn hr h1 h2 ha hS hA hb hx aL aC;obtain ⟨t,x,rfl⟩:=E1;obtain ⟨na,nn,nc,rfl⟩:=fD;obtain ⟨aa,an,ac,rfl⟩:=jw;go_enter func122,ntmps122
 go_wp2_with fail
 refine hd.o.mono ?_;rintro en w1 ⟨rfl,bH,bw⟩;have HC:=zab bH;have HG:=zab bw;have cR:=HN.o.gb bw (fun j hj=>by cases hj;exact HI.o.2.1);have ht:=zab (ze4 cR lp);have cT:=bw.size;clear bH bw cR;go_wp2_with fail
 refine ht.o.mono ?_;rintro en w2 ⟨tv,rfl,eC,aw⟩;obtain ⟨ta,tn,tc,rfl⟩:=zae (Row.zaE eC);have j6:=aw.size;have eK:=zab (zad HG.o (zaf (some c) aw));have ua:=zab (HC.o.below aw);have HT:Hid (w2.ownsRow w1.heap.size 9 1 (.slice ta tn tc) (Th.texts l).length (strCells (Th.texts l))):=zab (by simpa [Th.texts] using eC);clear eC aw hd ht;go_wp2_with fail
 have ic:=zfs (HA.o.gb eK.o (fun j hj=>by cases hj;exact HI.o.2.2)) (Row.zaE HT.o) aU (by simpa [Th.texts] using lp);refine ic.mono ?_;clear ic;rintro en w3 ⟨ka,kn,kc,rfl,hK,bD⟩;have aS:=zad eK.o (zaf (some c) bD);have hU:=zab (HX.o w3 c _ _ e _ _ S _ m dm hi (ua.o.below bD) (HR.o.gb aS (fun j hj=>by cases hj;exact HI.o.2.1)) HI.o.1 hK HI.o.2.1 (by show ¬ (w2.heap.size<=c);omega) HL.o);have gC:=zab aS;clear hK bD aS;go_wp2_with fail
 refine hU.o.mono ?_;rintro en w4 ⟨rfl,jj,bM⟩;have H4:=zab (And.intro jj bM);clear jj bM;go_wp2_with fail
 go_end0
 exact ⟨rfl,by rw[zaQ];exact H4.o.1,zad gC.o H4.o.2⟩
end Go.Proofs.YtgahgkddaljmkaaGreatDoor
